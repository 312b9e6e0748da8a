"""What is told alone: sets of things, and the finest classes."""

from truthwell.case_wants import want_case
from truthwell.changed import case_of_things
from truthwell.changed import with_wish
from truthwell.depths import find_plan
from truthwell.errors import NotFading
from truthwell.errors import TooMany
from truthwell.fading import first_grown
from truthwell.growing import all_sets
from truthwell.growing import greatest_pairs
from truthwell.growing import parted_sets
from truthwell.met import Solved
from truthwell.papers import Paper
from truthwell.rings import find_ring
from truthwell.wishes import Wish

MOST_TOLD = 8


class Tellings(Paper):
    """The greatest told sets of things, each with its Plan, and the knots, with their Rings."""

    def __init__(self, told, knots):
        super().__init__("tellings", told, knots)
        self.told = self.parts[0]
        self.knots = self.parts[1]


def sets_of_things(case):
    """The sets of one thing or more."""
    return all_sets(list(range(case.things)))[1:]


def tellings(case):
    """The Tellings of a case of at most 8 things."""
    want_case(case, "case")
    if case.things > MOST_TOLD:
        raise TooMany("things", MOST_TOLD)
    sets = sets_of_things(case)
    knots, told = parted_sets(sets, lambda things: find_plan(case_of_things(case, things)), False)
    rings = [(things, find_ring(case_of_things(case, things))) for things, _ in knots]
    return Tellings(greatest_pairs(told), rings)


def finest_told(case):
    """The Wish of the finest classes of a case that fades, whatever its wish."""
    want_case(case, "case")
    grown = first_grown(case)
    if grown is not None:
        raise NotFading(grown[0])
    each = with_wish(case, Wish.each(case.things))
    classes = list(range(case.things))
    for y in range(case.things):
        for x in range(y):
            if classes[x] != classes[y] and is_never(case_of_things(each, [x, y])):
                classes = [classes[x] if told == classes[y] else told for told in classes]
    return Wish.of(classes)


def is_never(case):
    """Whether nothing settles a case."""
    return Solved(case, case.firsts).depths[0] is None
