"""Least depths of situations, and the plans that have them."""

from truthwell.case_wants import want_case
from truthwell.case_wants import want_situation
from truthwell.lists import want_number_or_none
from truthwell.met import Solved
from truthwell.met import worth_of
from truthwell.plans import Plan


def depth_of(case, situation=None):
    """The least depth of a situation, None: of the first one; None if it is never."""
    return solved_from(case, situation).depths[0]


def solved_from(case, situation):
    """What comes about from a situation, None: from the first one, with the least depths."""
    want_case(case, "case")
    if situation is None:
        return Solved(case, case.firsts)
    want_situation(case, situation, "situation")
    return Solved(case, situation)


def depths(case):
    """The pairs of a situation that comes about and its least depth, as they are met."""
    want_case(case, "case")
    solved = Solved(case, case.firsts)
    return tuple(list(zip(solved.met, solved.depths)))


def worths(case, situation=None):
    """For each question 1 more than the greatest least depth behind its answers, or None; () if settled."""
    solved = solved_from(case, situation)
    row = solved.steps[0]
    if row is None:
        return ()
    return tuple([worth_of(solved.depths, behind) for behind in row])


def find_plan(case, most=None):
    """The Plan of the least depth; None if there is none of a depth that is at most most."""
    want_case(case, "case")
    want_number_or_none(most, 0, None, "most")
    solved = Solved(case, case.firsts)
    depth = solved.depths[0]
    if depth is None or (most is not None and depth > most):
        return None
    return plan_from(solved)


def plan_from(solved):
    """The Plan for what begins at the first one of these situations, which has a least depth."""
    rows = []
    seen = {0: True}
    waiting = [0]
    while waiting:
        at = waiting.pop()
        number = best_question(solved, at)
        rows.append((solved.met[at], solved.depths[at], number))
        for behind in [] if number is None else solved.steps[at][number]:
            if behind is not None and behind not in seen:
                seen[behind] = True
                waiting.append(behind)
    return Plan(sorted(rows))


def best_question(solved, at):
    """The least question whose worth is the least depth; None for a settled situation."""
    row = solved.steps[at]
    if row is None:
        return None
    return [worth_of(solved.depths, behind) for behind in row].index(solved.depths[at])
