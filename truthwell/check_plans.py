"""Which values are right plans, and which show that a group cannot be told apart."""

from truthwell.case_wants import is_situation
from truthwell.case_wants import want_case
from truthwell.lists import are_integers
from truthwell.lists import want_number_or_none
from truthwell.moves import Mover
from truthwell.moves import is_done
from truthwell.moves import opened
from truthwell.pair_plans import Untold
from truthwell.pair_plans import alone
from truthwell.plan_rows import is_right_table
from truthwell.plan_rows import rank_of_first
from truthwell.plans import Plan


def shows_plan(case, value, most=None):
    """Whether any value is a right Plan of the case, of a depth that is at most most, None: of any."""
    want_case(case, "case")
    want_number_or_none(most, 0, None, "most")
    if not isinstance(value, Plan) or not is_right_table(case, value.table):
        return False
    return most is None or rank_of_first(case, value.table) <= most


def shows_untold(case, value):
    """Whether any value is a right Untold of the case."""
    want_case(case, "case")
    if not isinstance(value, Untold) or not are_integers(value.group):
        return False
    if value.group not in case.wish.groups(case.things):
        return False
    return is_untold_ring(case, value.group, value.ring)


def is_untold_ring(case, group, ring):
    """Whether this shows by which answers a group is never told apart."""
    if not isinstance(ring, tuple) or not all([is_untold_pair(case, group, pair) for pair in ring]):
        return False
    situations = [pair[0] for pair in ring]
    if any([one >= two for one, two in zip(situations, situations[1:])]):
        return False
    table = {situation: True for situation in situations}
    mover = Mover(case)
    return alone(case, group) in table and all([stays_in(mover, pair, table) for pair in ring])


def is_untold_pair(case, group, pair):
    """Whether this is a situation that is not settled, in which all but the group are out, and an
    answer to each question."""
    if not isinstance(pair, tuple) or len(pair) != 2:
        return False
    situation, answers = pair
    if not isinstance(situation, tuple) or not is_situation(case, situation) or is_done(case, situation):
        return False
    if not all([thing in group for thing in opened(situation)]):
        return False
    return (are_integers(answers) and len(answers) == len(case.stock.questions)
            and all([0 <= told < case.heaps for told in answers]))


def stays_in(mover, pair, table):
    """Whether each of the answers leads to one of the situations: so it can come, too."""
    situation, answers = pair
    return all([mover.behind(situation, number, told) in table for number, told in enumerate(answers)])
