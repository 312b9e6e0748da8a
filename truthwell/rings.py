"""Rings: which answers leave, whatever is asked and for ever, what is not settled."""

from truthwell.books import MOST_ASKED
from truthwell.books import Book
from truthwell.case_wants import want_case
from truthwell.depths import plan_from
from truthwell.entries import Endless
from truthwell.entries import is_right_ring
from truthwell.entries import want_layer
from truthwell.errors import BadPaper
from truthwell.lists import want_number
from truthwell.met import Solved
from truthwell.pair_plans import never_ring


class Ring(Endless):
    """One list of entries (situation, answers)."""

    def __init__(self, table):
        super().__init__("ring", table)
        self.table = self.parts[0]


def find_ring(case):
    """The full Ring; None if the depth is a number."""
    want_case(case, "case")
    solved = Solved(case, case.firsts)
    return full_ring(solved) if solved.depths[0] is None else None


def full_ring(solved):
    """The full Ring of what begins at the first one of these situations, whose depth is never."""
    entries = never_ring(solved)
    want_layer(entries)
    return Ring(entries)


def judged(case):
    """The Plan of the least depth; or the full Ring."""
    want_case(case, "case")
    solved = Solved(case, case.firsts)
    return full_ring(solved) if solved.depths[0] is None else plan_from(solved)


def unrolled(case, ring, most):
    """The Book for most whose layers are the list of a right Ring, in the last one without the answers."""
    want_case(case, "case")
    if not isinstance(ring, Ring) or not is_right_ring(case, ring.table):
        raise BadPaper("ring")
    want_number(most, 0, MOST_ASKED, "most")
    want_layer(ring.table)
    return Book([ring.table] * most + [[(situation, ()) for situation, answers in ring.table]])
