"""The situations that come about from one, numbered as they are met, and their least depths."""

from truthwell.half_walks import Walk
from truthwell.moves import is_done


class Solved:
    """The situations that come about from one: steps tell where answers lead, depths the least depths."""

    def __init__(self, case, situation):
        self.met, self.steps = met_from(case, tuple(situation))
        self.depths = least_depths(self.steps)


def met_from(case, situation):
    """The situations that come about from one, as they are met; and for each of them, question by
    question, for each heap the number of what stands behind this answer, None for one that cannot
    come. For a settled situation there is None in the place of all this.
    """
    walk = Walk(case, situation)
    steps = []
    while len(steps) < len(walk.met):
        if is_done(case, walk.met[len(steps)]):
            steps.append(None)
        else:
            found = walk.behind(len(steps))
            steps.append([found[at:at + case.heaps] for at in range(0, len(found), case.heaps)])
    return walk.met, steps


def least_depths(steps):
    """The least depth of each situation, by what all of them lead to; None for never.

    Told from the ends: what is settled comes first. A question has a worth as soon as the last one
    of its answers leads to what has a least depth: as those come ascending, this is its greatest.
    """
    ahead, awaited = awaited_answers(steps)
    depths = [0 if row is None else None for row in steps]
    level = [number for number, row in enumerate(steps) if row is None]
    depth = 0
    while level:
        depth += 1
        told = [pair for behind in level for pair in ahead[behind]]
        found = []
        for number, question in told:
            awaited[number][question] -= 1
            if awaited[number][question] == 0 and depths[number] is None:
                depths[number] = depth
                found.append(number)
        level = list(found)
    return depths


def awaited_answers(steps):
    """For each situation the pairs (situation, question) that lead to it, one for each answer; and for
    each situation, for each question, how many answers can come."""
    ahead = [[] for _ in steps]
    awaited = []
    for number, row in enumerate(steps):
        counts = []
        for question, behind in enumerate([] if row is None else row):
            coming = [other for other in behind if other is not None]
            counts.append(len(coming))
            for other in coming:
                ahead[other].append((number, question))
        awaited.append(counts)
    return ahead, awaited


def worth_of(depths, behind):
    """1 more than the greatest least depth behind the answers to a question that can come; None for never."""
    worths = [depths[number] for number in behind if number is not None]
    return None if None in worths else 1 + max(worths)
