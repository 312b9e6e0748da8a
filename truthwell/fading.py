"""Whether a case fades: whether no answer ever makes its things freer."""

from truthwell.case_wants import want_case
from truthwell.checks import is_within
from truthwell.freer import are_pairs
from truthwell.freer import is_closed
from truthwell.papers import Denial
from truthwell.papers import Paper
from truthwell.past_values import is_past_of
from truthwell.shelves import freer_rows
from truthwell.two_stands import walked
from truthwell.ways_on import is_let_all
from truthwell.ways_on import led
from truthwell.ways_on import reached


class Fading(Paper):
    """Pairs of stands, closed under all triples: the first one of each is no freer than the other."""

    def __init__(self, pairs):
        super().__init__("fading", pairs)
        self.pairs = self.parts[0]


class Grows(Denial):
    """A past that is lawful from a thing's first stand, and one that is lawful only behind it."""

    def __init__(self, thing, past, more):
        super().__init__("grows", thing, past, more)
        self.thing = self.parts[0]
        self.past = self.parts[1]
        self.more = self.parts[2]


def fading(case):
    """A Fading if the case fades, otherwise a Grows."""
    want_case(case, "case")
    grown = first_grown(case)
    if grown is None:
        return Fading(sorted(closed_pairs(case.rule, pairs_begun(case))))
    thing, past, stand = grown
    return Grows(thing, past, walked(case.rule, stand, case.rule, case.firsts[thing], False)[1])


def first_grown(case):
    """The least thing that some past leads to a stand that is freer than its first one, or neither:
    the thing, the first such past, and the stand. None without any."""
    freer = freer_rows(case.rule)
    for thing, first in enumerate(case.firsts):
        for stand, past in reached(case.rule, first).items():
            if not freer[stand][first]:
                return thing, past, stand
    return None


def pairs_begun(case):
    """The pairs of the stands to which pasts lead from a first stand, and this one."""
    firsts = {first: True for first in case.firsts}
    return [(stand, first) for first in firsts for stand in reached(case.rule, first)]


def closed_pairs(rule, pairs):
    """These pairs and those behind them, for each triple that is let at the first stand."""
    found = {pair: True for pair in pairs}
    waiting = list(pairs)
    while waiting:
        one, two = waiting.pop()
        for pair in zip(rule.rows[one], rule.rows[two]):
            if pair[0] is not None and pair not in found:
                found[pair] = True
                waiting.append(pair)
    return list(found)


def shows_fading(case, value):
    """Whether any value is a Fading or a Grows that is right for the case."""
    want_case(case, "case")
    rule = case.rule
    if isinstance(value, Fading):
        return are_pairs(rule, rule, value.pairs) and is_closed(rule, rule, value.pairs, pairs_begun(case))
    if isinstance(value, Grows) and is_within(value.thing, 0, case.things - 1):
        return are_growing(rule, case.firsts[value.thing], value.past, value.more)
    return False


def are_growing(rule, first, past, more):
    """Whether a past is lawful from a stand, and the other one behind it, but not from the stand."""
    if not is_past_of(rule, past) or not is_past_of(rule, more):
        return False
    if not is_let_all(rule, first, past):
        return False
    return is_let_all(rule, led(rule, first, past)[0], more) and not is_let_all(rule, first, more)
