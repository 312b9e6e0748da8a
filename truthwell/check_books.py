"""Which values are right books, rings, gaps, and which show how often one question is to be asked."""

from truthwell.again import Again
from truthwell.again import Contrary
from truthwell.books import Book
from truthwell.case_wants import want_case
from truthwell.checks import is_within
from truthwell.entries import is_right_book
from truthwell.entries import is_right_ring
from truthwell.gaps import Gap
from truthwell.gaps import kind_here
from truthwell.lists import want_number_or_none
from truthwell.rings import Ring
from truthwell.sign_walks import are_signs
from truthwell.sign_walks import contrary_of
from truthwell.sign_walks import is_endless
from truthwell.sign_walks import most_signs
from truthwell.sign_walks import steps_from
from truthwell.sign_walks import want_even_pair
from truthwell.sign_walks import want_stands
from truthwell.weight_sums import least_weighed
from truthwell.weight_sums import want_even

MOST_SHOWN = 60


def shows_book(case, value, most=None):
    """Whether any value is a right Book, for just most unless this is None."""
    want_case(case, "case")
    want_number_or_none(most, 0, MOST_SHOWN, "most")
    if not isinstance(value, Book) or not is_right_book(case, value.layers):
        return False
    return most is None or len(value.layers) == most + 1


def shows_ring(case, value):
    """Whether any value is a right Ring."""
    want_case(case, "case")
    return isinstance(value, Ring) and is_right_ring(case, value.table)


def shows_gap(case, value):
    """Whether any value is a right Gap of the case."""
    want_case(case, "case")
    want_even(case.rule)
    if not isinstance(value, Gap):
        return False
    least = least_weighed(case)
    # With no question asked there is room only for what is settled: then nothing is a gap.
    if least is None or least == 0 or not is_within(value.weighed, least, least):
        return False
    if value.kind == "never":
        return shows_ring(case, value.shown)
    return value.kind == kind_here(case, least) and shows_book(case, value.shown, least)


def shows_again(rule, stand, other, value):
    """Whether any value is a right Again or a right Contrary for two things at these stands."""
    want_stands(rule, stand, other)
    want_even_pair(rule)
    if isinstance(value, Again):
        most = most_signs(steps_from(rule, (stand, other)))
        return (stand, other) in most and is_within(value.number, 1 + most[(stand, other)], 1 + most[(stand, other)])
    if isinstance(value, Contrary) and are_signs(value.signs) and is_within(value.begin, 0, len(value.signs) - 1):
        signs = value.signs
        return (is_endless(rule, stand, signs, value.begin)
                and is_endless(rule, other, contrary_of(signs), value.begin))
    return False
