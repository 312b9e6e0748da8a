"""A case told whole: four least numbers, each with what shows it."""

from truthwell.ahead import fewest_ahead
from truthwell.ahead import never_ahead
from truthwell.books import find_book
from truthwell.case_wants import want_case
from truthwell.check_ahead import shows_enough
from truthwell.check_ahead import shows_layers
from truthwell.check_ahead import shows_shadow_ring
from truthwell.check_books import shows_book
from truthwell.check_books import shows_ring
from truthwell.check_plans import shows_plan
from truthwell.check_rounds import shows_in_rounds
from truthwell.check_rounds import shows_never_in_rounds
from truthwell.check_rounds import shows_in_coins
from truthwell.checks import is_within
from truthwell.depths import depth_of
from truthwell.depths import find_plan
from truthwell.errors import TooMany
from truthwell.lists import is_list
from truthwell.papers import Denial
from truthwell.prices import in_coins
from truthwell.prices import least_coins
from truthwell.prices import want_prices
from truthwell.rings import find_ring
from truthwell.round_books import in_rounds
from truthwell.round_books import never_in_rounds
from truthwell.rounds import least_in_rounds

MOST_TOLD = 5
TWO_ROUNDS = 2


def told_whole(case, prices):
    """The triples (number, can, short): of the least depth, of questions asked ahead, of two rounds, of coins."""
    want_case(case, "case")
    want_prices(case, prices)
    return told_depth(case), told_ahead(case), told_in_rounds(case), told_in_coins(case, prices)


def told_depth(case):
    """The triple of the least depth."""
    depth = depth_of(case)
    if depth is None:
        return None, None, find_ring(case)
    if depth > MOST_TOLD:
        raise TooMany("questions", MOST_TOLD)
    return depth, find_plan(case, depth), find_book(case, depth - 1) if depth > 0 else None


def told_ahead(case):
    """The triple of the fewest questions that are asked ahead."""
    ring = never_ahead(case)
    if ring is not None:
        return None, None, ring
    can = fewest_ahead(case, MOST_TOLD)
    if not can:
        raise TooMany("questions", MOST_TOLD)
    many = len(can.numbers)
    return many, can, fewest_ahead(case, many - 1) if many > 0 else None


def told_in_rounds(case):
    """The triple of the fewest questions in two rounds."""
    cost = least_in_rounds(case, TWO_ROUNDS)
    if cost is None:
        return None, None, never_in_rounds(case, TWO_ROUNDS)
    return cost, in_rounds(case, TWO_ROUNDS, cost), in_rounds(case, TWO_ROUNDS, cost - 1) if cost > 0 else None


def told_in_coins(case, prices):
    """The triple of the least coins."""
    coins = least_coins(case, prices)
    if coins is None:
        return None, None, find_ring(case)
    return coins, in_coins(case, prices, coins), in_coins(case, prices, coins - 1) if coins > 0 else None


def shows_whole(case, prices, value):
    """Whether any value is a list of four right triples (number, can, short)."""
    want_case(case, "case")
    want_prices(case, prices)
    if not is_list(value) or len(value) != 4 or not all([is_list(part) and len(part) == 3 for part in value]):
        return False
    depth, ahead, rounds, coins = value
    return (shows_depth(case, depth) and shows_ahead(case, ahead) and shows_rounds(case, rounds)
            and shows_coins(case, prices, coins))


def is_least(number, most, short):
    """Whether this is a number, at most so great, and what is short is None just for 0."""
    return is_within(number, 0, most) and (short is None) == (number == 0)


def shows_depth(case, triple):
    """Whether a triple is right for the least depth."""
    number, can, short = triple
    if number is None:
        return can is None and shows_ring(case, short)
    if not is_least(number, MOST_TOLD, short) or not shows_plan(case, can, number):
        return False
    return number == 0 or shows_book(case, short, number - 1)


def shows_ahead(case, triple):
    """Whether a triple is right for the questions that are asked ahead."""
    number, can, short = triple
    if number is None:
        return can is None and shows_shadow_ring(case, short)
    if not is_least(number, MOST_TOLD, short) or not shows_enough(case, can, number):
        return False
    return number == 0 or shows_layers(case, number - 1, short)


def shows_rounds(case, triple):
    """Whether a triple is right for two rounds."""
    number, can, short = triple
    if number is None:
        return can is None and shows_never_in_rounds(case, TWO_ROUNDS, short)
    if not is_least(number, None, short) or isinstance(can, Denial):
        return False
    if not shows_in_rounds(case, TWO_ROUNDS, number, can):
        return False
    return number == 0 or (isinstance(short, Denial) and shows_in_rounds(case, TWO_ROUNDS, number - 1, short))


def shows_coins(case, prices, triple):
    """Whether a triple is right for the least coins."""
    number, can, short = triple
    if number is None:
        return can is None and shows_ring(case, short)
    if not is_least(number, None, short) or isinstance(can, Denial):
        return False
    if not shows_in_coins(case, prices, number, can):
        return False
    return number == 0 or (isinstance(short, Denial) and shows_in_coins(case, prices, number - 1, short))
