"""Whether the order of what was told means nothing."""

from truthwell.checks import is_integer
from truthwell.least_rule import least_like
from truthwell.papers import Denial
from truthwell.papers import Paper
from truthwell.past_values import is_past_of
from truthwell.rule_wants import want_rule_at
from truthwell.two_stands import parting_lengths
from truthwell.two_stands import walked
from truthwell.ways_on import behind_triple
from truthwell.ways_on import is_let_all
from truthwell.ways_on import let_at
from truthwell.ways_on import reached


class OrderFree(Paper):
    """An integer for each stand of a rule that is order-free: like stands have the same one."""

    def __init__(self, stands):
        super().__init__("orderfree", stands)
        self.stands = self.parts[0]


class Ordered(Denial):
    """A past that is lawful, and a rearranging of it that is not."""

    def __init__(self, past, other):
        super().__init__("ordered", past, other)
        self.past = self.parts[0]
        self.other = self.parts[1]


def order_free(rule, stand):
    """An OrderFree if the rule is order-free from the stand, otherwise an Ordered."""
    want_rule_at(rule, stand)
    crossing = shortest_crossing(rule, stand)
    if crossing is None:
        return OrderFree(least_like(rule))
    road, one, two, end = crossing
    return Ordered(road + (one, two) + end, road + (two, one) + end)


def shortest_crossing(rule, stand):
    """Four parts of the past of fewest triples that is lawful, and no longer so with two of its
    triples that are neighbours exchanged: what is ahead of them, the two, what is behind them.
    None without any. If some rearranging is not lawful, some exchange of neighbours is not, of a
    past of as many triples: by such exchanges each rearranging is reached from each other one.
    """
    lengths = parting_lengths(rule)
    roads = reached(rule, stand)
    best = None
    least = None
    for met in roads:
        for one, two, ahead, behind in crossings(rule, met):
            rest = 0 if behind is None else lengths[ahead][behind]
            if rest is not None and (least is None or len(roads[met]) + rest < least):
                least = len(roads[met]) + rest
                best = (roads[met], one, two, ahead, behind)
    if best is None:
        return None
    road, one, two, ahead, behind = best
    end = () if behind is None else walked(rule, ahead, rule, behind, False)[1]
    return road, one, two, end


def crossings(rule, stand):
    """For each two triples of which one behind the other is lawful from the stand: the two, the
    stand behind them, and the stand behind the two exchanged, None if these are barred."""
    found = []
    for one, middle in let_at(rule, stand):
        for two, ahead in let_at(rule, middle):
            found.append((one, two, ahead, behind_two(rule, stand, two, one)))
    return found


def behind_two(rule, stand, one, two):
    """The stand behind two triples; None if one of them is barred."""
    middle = behind_triple(rule, stand, one)
    return None if middle is None else behind_triple(rule, middle, two)


def shows_order(rule, stand, value):
    """Whether any value is an OrderFree or an Ordered that is right for the rule and the stand."""
    want_rule_at(rule, stand)
    if isinstance(value, OrderFree):
        return are_marks(rule, value.stands) and is_crossed(rule, stand, value.stands)
    if isinstance(value, Ordered):
        return are_right_pasts(rule, stand, value.past, value.other)
    return False


def are_marks(rule, marks):
    """Whether these are integers, one for each stand, such that those with the same one let the
    same triples, which lead to stands with the same one."""
    if not isinstance(marks, tuple) or len(marks) != len(rule.rows):
        return False
    if not all([is_integer(mark) for mark in marks]):
        return False
    rows = {}
    for mark, row in zip(marks, rule.rows):
        marked = [None if entry is None else marks[entry] for entry in row]
        if rows.setdefault(mark, marked) != marked:
            return False
    return True


def is_crossed(rule, stand, marks):
    """Whether, wherever lawful pasts lead, two triples are lawful in both orders or in none, and
    lead to stands with the same mark."""
    for met in reached(rule, stand):
        for _, _, ahead, behind in crossings(rule, met):
            if behind is None or marks[ahead] != marks[behind]:
                return False
    return True


def are_right_pasts(rule, stand, past, other):
    """Whether the two pasts have the same triples, the first one is lawful and the other one not."""
    if not is_past_of(rule, past) or not is_past_of(rule, other) or sorted(past) != sorted(other):
        return False
    return is_let_all(rule, stand, past) and not is_let_all(rule, stand, other)
