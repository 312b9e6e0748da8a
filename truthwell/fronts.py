"""Fronts: what fewer rounds cost in questions, and what fewer questions cost in coins."""

from truthwell.case_wants import want_case
from truthwell.cloud_walks import Sky
from truthwell.errors import Never
from truthwell.papers import Paper
from truthwell.price_walks import Purses
from truthwell.price_walks import priced_book_rows
from truthwell.price_walks import priced_plan_rows
from truthwell.prices import PriceBook
from truthwell.prices import PricePlan
from truthwell.prices import want_prices
from truthwell.round_books import RoundBook
from truthwell.round_books import RoundRing
from truthwell.round_costs import RoundCosts
from truthwell.round_rows import round_book_rows
from truthwell.round_rows import round_plan_rows
from truthwell.round_rows import round_ring_rows
from truthwell.rounds import RoundPlan

TWO_ROUNDS = 2


class RoundFront(Paper):
    """Points (rounds, questions), their plans, and what shows that there are no others."""

    def __init__(self, points, plans, books):
        super().__init__("roundfront", points, plans, books)
        self.points = self.parts[0]
        self.plans = self.parts[1]
        self.books = self.parts[2]


class CoinFront(Paper):
    """Points (questions, coins), their plans, and what shows that there are no others."""

    def __init__(self, points, plans, books):
        super().__init__("coinfront", points, plans, books)
        self.points = self.parts[0]
        self.plans = self.parts[1]
        self.books = self.parts[2]


def round_front(case):
    """The RoundFront; Never if no number of rounds and questions is enough."""
    want_case(case, "case")
    # For two rounds just the same clouds come about as for more.
    told = RoundCosts(Sky(case, TWO_ROUNDS), None)
    points = round_points([costs[0] for costs in told.costs])
    if not points:
        raise Never()
    plans = [RoundPlan(round_plan_rows(told, rounds)) for rounds, questions in points]
    least = points[0][0] - 1
    books = [RoundRing(round_ring_rows(told, least)) if least > 0 else None]
    for rounds, questions in short_rounds(points):
        books.append(RoundBook(round_book_rows(told, rounds, questions)) if questions >= 0 else None)
    return RoundFront(points, plans, books)


def round_points(costs):
    """The pairs of a number of rounds and its cost that is less than with fewer, by the costs of 0, 1, .. rounds."""
    points = []
    for rounds in range(1, len(costs)):
        if costs[rounds] is not None and (not points or costs[rounds] < points[-1][1]):
            points.append((rounds, costs[rounds]))
    return points


def short_rounds(points):
    """For each point the rounds and the questions that are too few behind it: up to the next point, or for ever; with
    -1 questions nothing is."""
    found = [(two[0] - 1, one[1] - 1) for one, two in zip(points, points[1:])]
    last = points[-1][1] - 1
    return found + [(max(last, 1), last)]


def coin_front(case, prices):
    """The CoinFront; Never if no number of coins is enough."""
    want_case(case, "case")
    want_prices(case, prices)
    purses = Purses(case, prices, None)
    points = purses.falls[0]
    if not points:
        raise Never()
    plans = [PricePlan(priced_plan_rows(purses, questions)) for questions, coins in points]
    books = []
    for questions, coins in short_coins(points, prices):
        has_one = questions >= 0 and coins >= 0
        books.append(PriceBook(priced_book_rows(purses, questions, coins)) if has_one else None)
    return CoinFront(points, plans, books)


def short_coins(points, prices):
    """The questions and the coins that are too few ahead of the first point, between two, and behind the last one;
    where one of both is below 0, nothing is."""
    least = points[0][0] - 1
    last = points[-1][1] - 1
    between = [(two[0] - 1, one[1] - 1) for one, two in zip(points, points[1:])]
    return [(least, least * max([0] + list(prices)))] + between + [(last, last)]
