"""Prices: questions that cost coins."""

from truthwell.case_wants import want_case
from truthwell.checks import is_within
from truthwell.errors import BadPrices
from truthwell.lists import is_list
from truthwell.lists import want_number
from truthwell.lists import want_number_or_none
from truthwell.papers import Denial
from truthwell.papers import Paper
from truthwell.price_walks import Purses
from truthwell.price_walks import priced_book_rows
from truthwell.price_walks import priced_plan_rows


class PricePlan(Paper):
    """A priced plan: a table of rows (situation, questions, coins, number)."""

    def __init__(self, table):
        super().__init__("priceplan", table)
        self.table = self.parts[0]


class PriceBook(Denial):
    """A priced book: a table of rows (situation, questions, coins, answers)."""

    def __init__(self, table):
        super().__init__("pricebook", table)
        self.table = self.parts[0]


def want_prices(case, prices):
    """Raises BadPrices for what is no list of an integer from 1 on for each question."""
    if not is_list(prices) or len(prices) != len(case.stock.questions):
        raise BadPrices("prices")
    if not all([is_within(price, 1, None) for price in prices]):
        raise BadPrices("prices")


def least_coins(case, prices):
    """The least coins with which the case is settled; None for never."""
    want_case(case, "case")
    want_prices(case, prices)
    falls = Purses(case, prices, None).falls[0]
    return falls[-1][1] if falls else None


def in_coins(case, prices, coins, most=None):
    """A PricePlan for so many coins and most questions, None: as many as coins; if there is none, a PriceBook."""
    want_case(case, "case")
    want_prices(case, prices)
    want_number(coins, 0, None, "coins")
    want_number_or_none(most, 0, None, "most")
    questions = coins if most is None else most
    purses = Purses(case, prices, questions)
    least = purses.cost(0, questions)
    if least is not None and least <= coins:
        return PricePlan(priced_plan_rows(purses, questions))
    return PriceBook(priced_book_rows(purses, questions, coins))
