"""Plain searches for sets that are enough and short, to compare the program with."""

from itertools import combinations
from itertools import product

from truthwell.cases import Case
from truthwell.depths import depth_of
from truthwell.questions import Question
from truthwell.rules import Rule
from truthwell.stocks import Stock
from truthwell.wishes import Wish


def sets_told(items):
    """All ascending tuples: those of fewer items first, then as tuples are compared."""
    return [some for size in range(len(items) + 1) for some in combinations(sorted(items), size)]


def least_and_greatest(sets, has):
    """By what each of the sets has: the least that have it, and the greatest that lack it."""
    having = [some for some in sets if has[some]]
    lacking = [some for some in sets if not has[some]]
    least = [some for some in having if not any(set(other) < set(some) for other in having)]
    greatest = [some for some in lacking if not any(set(some) < set(other) for other in lacking)]
    return least, greatest


def is_enough(case, most):
    depth = depth_of(case)
    return depth is not None and (most is None or depth <= most)


def crew_case(case, crew):
    questions = [question for question in case.stock.questions if question.who in crew]
    return Case(Stock(case.things, case.answerers, case.heaps, questions), case.rule, case.firsts, case.wish)


def alone_case(case, things, wish=None):
    questions = []
    for question in case.stock.questions:
        new = Question(question.who, [question.heaps[x] for x in things])
        if new not in questions:
            questions.append(new)
    if wish is None:
        wish = case.wish if case.wish.classes is None else Wish.of([case.wish.classes[x] for x in things])
    return Case(Stock(len(things), case.answerers, case.heaps, questions), case.rule, [case.firsts[x] for x in things], wish)


def all_bars(rule):
    return [(s, who, true, told) for s, who, true, told in product(range(len(rule)), range(rule.answerers), range(rule.heaps), range(rule.heaps))
            if rule.rows[s][who * rule.heaps ** 2 + true * rule.heaps + told] is not None]


def barred_rule(rule, bars):
    """The rule with these bars, None if it is not live."""
    rows = [list(row) for row in rule.rows]
    for s, who, true, told in bars:
        rows[s][who * rule.heaps ** 2 + true * rule.heaps + told] = None
    for row in rows:
        for at in range(0, len(row), rule.heaps):
            if all(entry is None for entry in row[at:at + rule.heaps]):
                return None
    return Rule(rule.answerers, rule.heaps, rows)


def bars_case(case, bars):
    return Case(case.stock, barred_rule(case.rule, bars), case.firsts, case.wish)
