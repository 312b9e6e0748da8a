"""Pasts: lists of triples (who, true, told), the earliest first."""

from truthwell.errors import Barred
from truthwell.errors import TooMany
from truthwell.papers import fixed
from truthwell.rule_wants import want_asked
from truthwell.rule_wants import want_past
from truthwell.rule_wants import want_rule_at
from truthwell.rule_wants import want_triples
from truthwell.ways_on import behind_triple
from truthwell.ways_on import is_let_all
from truthwell.ways_on import led

MOST_YIELDED = 12
MOST_COUNTED = 60
MOST_REARRANGED = 8


def after_past(rule, stand, past):
    """The stand to which the past leads; Barred tells its first triple that is barred."""
    want_rule_at(rule, stand)
    want_past(rule, past)
    behind, place = led(rule, stand, past)
    if place < len(past):
        raise Barred(place)
    return behind


def is_lawful(rule, stand, past):
    """Whether none of the triples of the past is barred on its way from the stand."""
    want_rule_at(rule, stand)
    want_past(rule, past)
    return is_let_all(rule, stand, past)


def signs_of(past):
    """T for each truth, L for each lie."""
    want_triples(past)
    return "".join(["T" if true == told else "L" for who, true, told in past])


def lawful_pasts(rule, stand, asked):
    """Yields, ascending, the pasts that are lawful from the stand, in which just these were asked and true."""
    want_rule_at(rule, stand)
    want_asked(rule, asked)
    if len(asked) > MOST_YIELDED:
        raise TooMany("asked", MOST_YIELDED)
    pairs = fixed(asked)
    waiting = [((), stand)]
    while waiting:
        past, reached = waiting.pop()
        if len(past) == len(pairs):
            yield past
        else:
            # What is put last is taken first: so the least told heap comes last.
            longer = longer_pasts(rule, reached, past, pairs[len(past)])
            waiting.extend(longer[::-1])


def longer_pasts(rule, stand, past, pair):
    """The past, which leads to this stand, with each answer more that is let, and where it leads then."""
    who, true = pair
    longer = []
    for told in range(rule.heaps):
        triple = (who, true, told)
        behind = behind_triple(rule, stand, triple)
        if behind is not None:
            longer.append((past + (triple,), behind))
    return longer


def counted_by_lies(rule, stand, asked):
    """How many pasts of lawful_pasts have 0, 1, .. lies."""
    want_rule_at(rule, stand)
    want_asked(rule, asked)
    if len(asked) > MOST_COUNTED:
        raise TooMany("asked", MOST_COUNTED)
    counts = {(stand, 0): 1}
    for pair in asked:
        counts = counted_on(rule, counts, pair)
    found = [0] * (len(asked) + 1)
    for reached, lies in counts:
        found[lies] += counts[(reached, lies)]
    return tuple(found)


def counted_on(rule, counts, pair):
    """By stand and lies, how many pasts there are with one answer more."""
    who, true = pair
    found = {}
    for stand, lies in counts:
        for told in range(rule.heaps):
            behind = behind_triple(rule, stand, (who, true, told))
            if behind is not None:
                key = (behind, lies if told == true else lies + 1)
                found[key] = found.get(key, 0) + counts[(stand, lies)]
    return found


def rearranged(past):
    """Yields, ascending, each once, all lists of just these triples, as tuples."""
    want_triples(past)
    if len(past) > MOST_REARRANGED:
        raise TooMany("past", MOST_REARRANGED)
    row = sorted(fixed(past))
    while row is not None:
        yield tuple(row)
        row = row_behind(row)


def row_behind(row):
    """The next greater list of the same items; None behind the greatest one."""
    at = len(row) - 2
    while at >= 0 and row[at] >= row[at + 1]:
        at -= 1
    if at < 0:
        return None
    other = max([k for k in range(at + 1, len(row)) if row[k] > row[at]])
    tail = [row[at] if k == other else row[k] for k in range(at + 1, len(row))]
    return row[:at] + [row[other]] + tail[::-1]
