"""Gaps: cases that ask for more than their weight does."""

from truthwell.books import full_book
from truthwell.case_wants import want_case
from truthwell.led_layers import all_kept
from truthwell.met import Solved
from truthwell.papers import Denial
from truthwell.rings import full_ring
from truthwell.weight_sums import least_weighed
from truthwell.weight_sums import parting_well
from truthwell.weight_sums import want_even


class Gap(Denial):
    """The kind of a gap, the number for which there is room, and what shows that the depth is greater."""

    def __init__(self, kind, weighed, shown):
        super().__init__("gap", kind, weighed, shown)
        self.kind = self.parts[0]
        self.weighed = self.parts[1]
        self.shown = self.parts[2]


def gap(case):
    """A Gap if the depth is above what is weighed; None if not, or if that is None."""
    want_case(case, "case")
    want_even(case.rule)
    least = least_weighed(case)
    if least is None:
        return None
    solved = Solved(case, case.firsts)
    depth = solved.depths[0]
    if depth is None:
        return Gap("never", least, full_ring(solved))
    if depth == least:
        return None
    return Gap(kind_here(case, least), least, full_book(solved, least, all_kept))


def kind_here(case, least):
    """Whether a gap shows at the first question, for so many answers from 1 on, or later."""
    return "later" if parting_well(case, case.firsts, least) else "here"
