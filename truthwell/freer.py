"""Which stands are freer than which, and what shows it."""

from truthwell.checks import is_within
from truthwell.papers import Denial
from truthwell.papers import Paper
from truthwell.past_values import is_past_of
from truthwell.rule_wants import want_rule
from truthwell.rule_wants import want_two_stands
from truthwell.shelves import freer_rows
from truthwell.two_stands import walked
from truthwell.ways_on import is_let_all


class NoFreer(Paper):
    """Pairs of stands, closed under all triples: the first one of each is no freer than the other."""

    def __init__(self, pairs):
        super().__init__("nofreer", pairs)
        self.pairs = self.parts[0]


class Freer(Denial):
    """A past that is lawful from the first stand, and not from the other one."""

    def __init__(self, past):
        super().__init__("freer", past)
        self.past = self.parts[0]


def compared(rule, stand, other, other_stand):
    """A NoFreer if the stand is no freer than the other rule's one, otherwise a Freer."""
    want_two_stands(rule, stand, other, other_stand)
    pairs, past = walked(rule, stand, other, other_stand, False)
    return NoFreer(pairs) if past is None else Freer(past)


def freer_table(rule):
    """For each stand, for each one, whether the former is no freer than the latter."""
    want_rule(rule, "rule")
    return tuple([tuple(row) for row in freer_rows(rule)])


def shows_compared(rule, stand, other, other_stand, value):
    """Whether any value is a NoFreer or a Freer that is right for the two stands."""
    want_two_stands(rule, stand, other, other_stand)
    if isinstance(value, NoFreer):
        return are_pairs(rule, other, value.pairs) and is_closed(rule, other, value.pairs, [(stand, other_stand)])
    if isinstance(value, Freer):
        return is_freer_past(rule, stand, other, other_stand, value.past)
    return False


def are_pairs(rule, other, pairs):
    """Whether this is a tuple of pairs of stands of the two rules."""
    if not isinstance(pairs, tuple):
        return False
    return all([is_pair(rule, other, pair) for pair in pairs])


def is_pair(rule, other, pair):
    """Whether this is a pair of stands of the two rules."""
    return (isinstance(pair, tuple) and len(pair) == 2
            and is_within(pair[0], 0, len(rule.rows) - 1) and is_within(pair[1], 0, len(other.rows) - 1))


def is_closed(rule, other, pairs, wanted):
    """Whether no pair stands twice, the wanted ones are there, and none is told apart by one triple or leads out."""
    table = {pair: True for pair in pairs}
    if len(table) != len(pairs) or not all([pair in table for pair in wanted]):
        return False
    for one, two in pairs:
        for left, right in zip(rule.rows[one], other.rows[two]):
            if left is not None and (left, right) not in table:
                return False
    return True


def is_freer_past(rule, stand, other, other_stand, past):
    """Whether this is a past that is lawful from the stand, and not from the other one."""
    if not is_past_of(rule, past):
        return False
    return is_let_all(rule, stand, past) and not is_let_all(other, other_stand, past)
