"""Which values show what is enough, and what is short: of answerers, of things, of bars."""

from truthwell.bars import MOST_BARS
from truthwell.bars import LeastBars
from truthwell.bars import NoBars
from truthwell.bars import case_of_bars
from truthwell.bars import sets_laid
from truthwell.bars import unlike_bars
from truthwell.bars import want_case_of_bars
from truthwell.case_wants import want_case
from truthwell.changed import case_of_things
from truthwell.check_books import shows_book
from truthwell.check_books import shows_ring
from truthwell.check_plans import shows_plan
from truthwell.growing import all_sets
from truthwell.growing import are_all_told
from truthwell.growing import are_pairs_of
from truthwell.untold import MOST_TOLD
from truthwell.untold import Tellings
from truthwell.untold import sets_of_things
from truthwell.whom import Crews
from truthwell.whom import NoCrew
from truthwell.whom import case_of_crew
from truthwell.whom import want_most


def shows_crews(case, value, most=None):
    """Whether any value is a right Crews or NoCrew of the case."""
    want_case(case, "case")
    want_most(most)
    sets = all_sets(list(range(case.answerers)))
    if isinstance(value, Crews):
        return is_parted(sets, lambda crew: case_of_crew(case, crew), value.enough, value.short, most)
    return isinstance(value, NoCrew) and is_short(sets, lambda crew: case_of_crew(case, crew), value.short, most)


def is_parted(sets, case_of, enough, short, most):
    """Whether some sets, with their Plans, are enough, and others, with Books or Rings, are short, so that this is
    known of all."""
    if not are_pairs_of(sets, enough) or not are_pairs_of(sets, short) or len(enough) == 0:
        return False
    return are_all_told(sets, enough, short) and are_enough(case_of, enough, most) and are_short(case_of, short, most)


def is_short(sets, case_of, short, most):
    """Whether some sets, with their Books or Rings, are short, so that all are."""
    return are_pairs_of(sets, short) and are_all_told(sets, (), short) and are_short(case_of, short, most)


def are_enough(case_of, pairs, most):
    """Whether each set has a right Plan of its case."""
    return all([shows_plan(case_of(some), paper, most) for some, paper in pairs])


def are_short(case_of, pairs, most):
    """Whether each set has a right Book of its case, for most; for None a Ring."""
    if most is None:
        return all([shows_ring(case_of(some), paper) for some, paper in pairs])
    return all([shows_book(case_of(some), paper, most) for some, paper in pairs])


def shows_tellings(case, value):
    """Whether any value is a right Tellings of the case."""
    want_case(case, "case")
    if not isinstance(value, Tellings) or case.things > MOST_TOLD:
        return False
    sets = sets_of_things(case)
    if not are_pairs_of(sets, value.told) or not are_pairs_of(sets, value.knots):
        return False
    if not are_all_told(sets, value.knots, value.told):
        return False
    return (are_enough(lambda things: case_of_things(case, things), value.told, None)
            and are_short(lambda some: case_of_things(case, some), value.knots, None))


def shows_bars(case, value, most=None, bars=None):
    """Whether any value is a right LeastBars or NoBars of the case, for the sets of these bars."""
    want_case_of_bars(case, most, bars)
    told = unlike_bars(case, bars)
    if len(told) > MOST_BARS:
        return False
    sets = sets_laid(case, told)
    if isinstance(value, LeastBars):
        return is_parted(sets, lambda some: case_of_bars(case, some), value.enough, value.short, most)
    return isinstance(value, NoBars) and is_short(sets, lambda some: case_of_bars(case, some), value.short, most)
