"""Which values show what rounds and prices make of a case."""

from truthwell.case_wants import want_case
from truthwell.checks import is_within
from truthwell.fronts import CoinFront
from truthwell.fronts import RoundFront
from truthwell.fronts import short_coins
from truthwell.fronts import short_rounds
from truthwell.lists import want_number
from truthwell.lists import want_number_or_none
from truthwell.price_checks import is_right_priced_book
from truthwell.price_checks import is_right_priced_plan
from truthwell.prices import PriceBook
from truthwell.prices import PricePlan
from truthwell.prices import want_prices
from truthwell.round_books import RoundBook
from truthwell.round_books import RoundRing
from truthwell.round_checks import is_right_round_book
from truthwell.round_checks import is_right_round_plan
from truthwell.round_checks import is_right_round_ring
from truthwell.rounds import RoundPlan


def shows_in_rounds(case, rounds, most, value):
    """Whether any value is a RoundPlan or a RoundBook that is right for so many rounds and questions."""
    want_case(case, "case")
    want_number(rounds, 1, None, "rounds")
    want_number(most, 0, None, "most")
    return is_round_plan(case, rounds, most, value) or is_round_book(case, rounds, most, value)


def is_round_plan(case, rounds, most, value):
    """Whether any value is a RoundPlan that is right for so many rounds and questions."""
    return isinstance(value, RoundPlan) and is_right_round_plan(case, value.table, rounds, most)


def is_round_book(case, rounds, most, value):
    """Whether any value is a RoundBook that is right for so many rounds and questions."""
    return isinstance(value, RoundBook) and is_right_round_book(case, value.table, rounds, most)


def shows_never_in_rounds(case, rounds, value):
    """Whether any value is a RoundRing that is right for so many rounds."""
    want_case(case, "case")
    want_number(rounds, 1, None, "rounds")
    return is_round_ring(case, rounds, value)


def is_round_ring(case, rounds, value):
    """Whether any value is a RoundRing that is right for so many rounds."""
    return isinstance(value, RoundRing) and is_right_round_ring(case, value.table, rounds)


def shows_in_coins(case, prices, coins, value, most=None):
    """Whether any value is a PricePlan or a PriceBook that is right for most questions, None: as many as coins."""
    want_case(case, "case")
    want_prices(case, prices)
    want_number(coins, 0, None, "coins")
    want_number_or_none(most, 0, None, "most")
    questions = coins if most is None else most
    return is_price_plan(case, prices, questions, coins, value) or is_price_book(case, prices, questions, coins, value)


def is_price_plan(case, prices, questions, coins, value):
    """Whether any value is a PricePlan that is right for so many questions and coins."""
    return isinstance(value, PricePlan) and is_right_priced_plan(case, prices, value.table, questions, coins)


def is_price_book(case, prices, questions, coins, value):
    """Whether any value is a PriceBook that is right for so many questions and coins."""
    return isinstance(value, PriceBook) and is_right_priced_book(case, prices, value.table, questions, coins)


def is_front(value, least):
    """Whether the parts of a front may be those of one: points whose first numbers ascend, from the least one
    on, and whose second ones descend, and lists of as many plans, and of one book more."""
    if not all([isinstance(part, tuple) for part in value.parts]):
        return False
    points, plans, books = value.parts
    if len(points) == 0 or len(plans) != len(points) or len(books) != len(points) + 1:
        return False
    if not all([is_point(point, least) for point in points]):
        return False
    return all([one[0] < two[0] and one[1] > two[1] for one, two in zip(points, points[1:])])


def is_point(point, least):
    """Whether this is a pair of integers, the first one from the least on, the second one from 0 on."""
    if not isinstance(point, tuple) or len(point) != 2:
        return False
    return is_within(point[0], least, None) and is_within(point[1], 0, None)


def shows_round_front(case, value):
    """Whether any value is a right RoundFront of the case."""
    want_case(case, "case")
    if not isinstance(value, RoundFront) or not is_front(value, 1):
        return False
    least = value.points[0][0] - 1
    if not (is_round_ring(case, least, value.books[0]) if least > 0 else value.books[0] is None):
        return False
    if not all([is_round_plan(case, rounds, questions, plan)
                for (rounds, questions), plan in zip(value.points, value.plans)]):
        return False
    return all([is_round_book(case, rounds, questions, book) if questions >= 0 else book is None
                for (rounds, questions), book in zip(short_rounds(value.points), value.books[1:])])


def shows_coin_front(case, prices, value):
    """Whether any value is a right CoinFront of the case."""
    want_case(case, "case")
    want_prices(case, prices)
    if not isinstance(value, CoinFront) or not is_front(value, 0):
        return False
    if not all([is_price_plan(case, prices, questions, coins, plan)
                for (questions, coins), plan in zip(value.points, value.plans)]):
        return False
    return all([is_price_book(case, prices, questions, coins, book) if questions >= 0 and coins >= 0 else book is None
                for (questions, coins), book in zip(short_coins(value.points, prices), value.books)])
