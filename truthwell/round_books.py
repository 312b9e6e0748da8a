"""Rounds: what shows that so many of them are enough, or too few."""

from truthwell.case_wants import want_case
from truthwell.cloud_walks import Sky
from truthwell.lists import want_number
from truthwell.papers import Denial
from truthwell.round_costs import RoundCosts
from truthwell.round_rows import round_book_rows
from truthwell.round_rows import round_plan_rows
from truthwell.round_rows import round_ring_rows
from truthwell.rounds import RoundPlan


class RoundBook(Denial):
    """A book of rounds: a table of rows (cloud, rounds, questions)."""

    def __init__(self, table):
        super().__init__("roundbook", table)
        self.table = self.parts[0]


class RoundRing(Denial):
    """A ring of rounds: a table of rows (cloud, rounds)."""

    def __init__(self, table):
        super().__init__("roundring", table)
        self.table = self.parts[0]


def in_rounds(case, rounds, most):
    """A RoundPlan for so many rounds and questions; if there is none, a RoundBook."""
    want_case(case, "case")
    want_number(rounds, 1, None, "rounds")
    want_number(most, 0, None, "most")
    told = RoundCosts(Sky(case, rounds), rounds)
    cost = told.least_cost(rounds)
    if cost is not None and cost <= most:
        return RoundPlan(round_plan_rows(told, rounds))
    return RoundBook(round_book_rows(told, rounds, most))


def never_in_rounds(case, rounds):
    """A RoundRing for so many rounds; None if some number of questions is enough."""
    want_case(case, "case")
    want_number(rounds, 1, None, "rounds")
    told = RoundCosts(Sky(case, rounds), rounds)
    return RoundRing(round_ring_rows(told, rounds)) if told.least_cost(rounds) is None else None
