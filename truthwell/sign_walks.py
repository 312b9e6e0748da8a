"""Signs that are lawful from one stand, with their contrary lawful from another one."""

from truthwell.errors import NotEven
from truthwell.errors import Unlike
from truthwell.rule_wants import want_rule_at
from truthwell.rules import want_stand
from truthwell.weight_sums import ends_of

TRUTH = "T"
LIE = "L"


def want_even_pair(rule):
    """For what is no even-handed rule of two heaps, its errors."""
    if not rule.is_even:
        raise NotEven()
    if rule.heaps != 2:
        raise Unlike("heaps")


def want_stands(rule, stand, other):
    """For what is no rule, or not two stands of it, their errors."""
    want_rule_at(rule, stand)
    want_stand(rule, other)


def signs_on(rule, pair):
    """The signs that are lawful from the one stand, their contrary from the other one, T ahead of L;
    each with the two stands behind it."""
    one_truth, one_lie = ends_of(rule, pair[0])
    two_truth, two_lie = ends_of(rule, pair[1])
    found = [(TRUTH, (one_truth, two_lie)), (LIE, (one_lie, two_truth))]
    return [(sign, behind) for sign, behind in found if None not in behind]


def steps_from(rule, pair):
    """What signs_on tells of each pair of stands to which such signs lead from this one."""
    steps = {}
    waiting = [pair]
    while waiting:
        met = waiting.pop()
        if met not in steps:
            steps[met] = signs_on(rule, met)
            waiting.extend([behind for sign, behind in steps[met]])
    return steps


def most_signs(steps):
    """How many signs there are at most from each pair; pairs from which they go on for ever are left out.

    Told from the ends: a pair follows as soon as all pairs behind it are told.
    """
    ahead = {pair: [] for pair in steps}
    awaited = {}
    for pair, row in steps.items():
        awaited[pair] = len(row)
        for sign, behind in row:
            ahead[behind].append(pair)
    most = {}
    waiting = [pair for pair in steps if awaited[pair] == 0]
    while waiting:
        pair = waiting.pop()
        most[pair] = max([0] + [1 + most[behind] for sign, behind in steps[pair]])
        for former in ahead[pair]:
            awaited[former] -= 1
            if awaited[former] == 0:
                waiting.append(former)
    return most


def endless_signs(steps, most, pair):
    """Signs from a pair from which they go on for ever, and the index from which on they are read again."""
    places = {}
    signs = []
    while pair not in places:
        places[pair] = len(signs)
        sign, pair = [step for step in steps[pair] if step[1] not in most][0]
        signs.append(sign)
    return "".join(signs), places[pair]


def first_signs(steps, most, pair, answers):
    """The first so many signs from a pair; None without any."""
    if pair in most and most[pair] < answers:
        return None
    signs = []
    for rest in range(answers - 1, -1, -1):
        on = [step for step in steps[pair] if step[1] not in most or most[step[1]] >= rest]
        sign, pair = on[0]
        signs.append(sign)
    return "".join(signs)


def are_signs(value):
    """Whether a value is a string of signs."""
    return isinstance(value, str) and all([sign in (TRUTH, LIE) for sign in value])


def contrary_of(signs):
    """The contrary of these signs."""
    return "".join([LIE if sign == TRUTH else TRUTH for sign in signs])


def is_endless(rule, stand, signs, begin):
    """Whether signs, read once and then again and again from an index on, are lawful from a stand."""
    stand = behind_signs(rule, stand, signs[:begin])
    met = set()
    while stand is not None and stand not in met:
        met.add(stand)
        stand = behind_signs(rule, stand, signs[begin:])
    return stand is not None


def behind_signs(rule, stand, signs):
    """The stand behind these signs; None if they are not lawful from a stand."""
    ends = [ends_of(rule, met) for met in range(len(rule.rows))]
    for sign in signs:
        if stand is None:
            return None
        stand = ends[stand][0 if sign == TRUTH else 1]
    return stand
