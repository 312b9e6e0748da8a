"""Plans group by group: a case that fades is told apart if each of its groups is."""

from truthwell.case_wants import want_case
from truthwell.depths import plan_from
from truthwell.errors import NotFading
from truthwell.fading import first_grown
from truthwell.met import Solved
from truthwell.met import met_from
from truthwell.moves import OUT
from truthwell.papers import Denial


class Untold(Denial):
    """A group that cannot be told apart, and answers by which it never is."""

    def __init__(self, group, ring):
        super().__init__("untold", group, ring)
        self.group = self.parts[0]
        self.ring = self.parts[1]


def alone(case, group):
    """The situation in which just the things of a group are open, at their first stands."""
    return tuple([stand if thing in group else OUT for thing, stand in enumerate(case.firsts)])


def group_depths(case):
    """The pairs of a group and the least depth of it alone, in the order of the groups."""
    want_case(case, "case")
    # More than may come about in the case is told even if there are fewer of each group alone.
    met_from(case, case.firsts)
    groups = case.wish.groups(case.things)
    return tuple([(group, Solved(case, alone(case, group)).depths[0]) for group in groups])


def by_groups(case):
    """A Plan that asks no more than the groups together do; or an Untold of the first group that never ends."""
    want_case(case, "case")
    grown = first_grown(case)
    if grown is not None:
        raise NotFading(grown[0])
    solved = Solved(case, case.firsts)
    # Where a case fades, one of its groups is never if it is; if not, its least depth is no more than they ask.
    if solved.depths[0] is not None:
        return plan_from(solved)
    for group in case.wish.groups(case.things):
        of_group = Solved(case, alone(case, group))
        if of_group.depths[0] is None:
            return Untold(group, never_ring(of_group))
    return None


def never_ring(solved):
    """The pairs (situation, answers) of those to which the least answers lead from the first situation
    behind which it is never; ascending."""
    pairs = []
    seen = {0: True}
    waiting = [0]
    while waiting:
        at = waiting.pop()
        answers = [never_answer(solved, behind) for behind in solved.steps[at]]
        pairs.append((solved.met[at], tuple(answers)))
        for told, behind in zip(answers, solved.steps[at]):
            if behind[told] not in seen:
                seen[behind[told]] = True
                waiting.append(behind[told])
    return tuple(sorted(pairs))


def never_answer(solved, behind):
    """The least answer that can come and behind which it is never."""
    return [told for told, number in enumerate(behind) if number is not None and solved.depths[number] is None][0]
