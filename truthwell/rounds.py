"""Rounds: some questions at a time are asked ahead."""

from truthwell.case_wants import is_situation
from truthwell.case_wants import want_case
from truthwell.case_wants import want_question
from truthwell.cloud_walks import Sky
from truthwell.errors import BadSituation
from truthwell.lists import is_list
from truthwell.lists import want_number
from truthwell.moves import Mover
from truthwell.moves import is_open
from truthwell.papers import Paper
from truthwell.round_costs import RoundCosts


class RoundPlan(Paper):
    """A plan of rounds: a table of rows (situation, rounds, cost, numbers)."""

    def __init__(self, table):
        super().__init__("roundplan", table)
        self.table = self.parts[0]


def want_cloud(case, cloud):
    """Raises BadSituation for what is no list of unlike situations, one or more, with an open thing each."""
    if not is_list(cloud) or len(cloud) == 0 or not all([is_situation(case, situation) for situation in cloud]):
        raise BadSituation("cloud")
    situations = [tuple(situation) for situation in cloud]
    if len(set(situations)) != len(situations) or not all([is_open(situation) for situation in situations]):
        raise BadSituation("cloud")


def turned_into(case, cloud, number):
    """The cloud into which a question turns a cloud."""
    want_case(case, "case")
    want_cloud(case, cloud)
    want_question(case, number)
    mover = Mover(case)
    return tuple(sorted({behind for situation in cloud for told, behind in mover.answers(situation, number)}))


def clouds(case, rounds):
    """The clouds that come about for so many rounds, ascending."""
    want_case(case, "case")
    want_number(rounds, 1, None, "rounds")
    return tuple(Sky(case, rounds).unfolded())


def least_in_rounds(case, rounds):
    """The least cost of at most so many rounds; None for never."""
    want_case(case, "case")
    want_number(rounds, 1, None, "rounds")
    return RoundCosts(Sky(case, rounds), rounds).least_cost(rounds)
