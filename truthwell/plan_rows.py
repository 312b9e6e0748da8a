"""The rows of plans: whether they are right, and where they lead."""

from truthwell.case_wants import is_situation
from truthwell.checks import is_within
from truthwell.moves import answers_on
from truthwell.moves import is_done


def is_right_table(case, table):
    """Whether any value is the table of a right plan of the case."""
    if not isinstance(table, tuple) or not all([is_row(case, row) for row in table]):
        return False
    situations = [row[0] for row in table]
    if any([one >= two for one, two in zip(situations, situations[1:])]):
        return False
    ranks = {situation: rank for situation, rank, number in table}
    return case.firsts in ranks and all([leads_down(case, row, ranks) for row in table])


def is_row(case, row):
    """Whether this is a triple of a situation, the rank and the question that it may have."""
    if not isinstance(row, tuple) or len(row) != 3:
        return False
    situation, rank, number = row
    if not isinstance(situation, tuple) or not is_situation(case, situation):
        return False
    if is_done(case, situation):
        return is_within(rank, 0, 0) and number is None
    return is_within(rank, 1, None) and is_within(number, 0, len(case.stock.questions) - 1)


def leads_down(case, row, ranks):
    """Whether all that is behind the question of a row has a lesser rank."""
    situation, rank, number = row
    if number is None:
        return True
    answers = answers_on(case, situation, case.stock.questions[number])
    return all([behind in ranks and ranks[behind] < rank for told, behind in answers])


def rank_of_first(case, table):
    """The rank of the first situation in a right table."""
    return [rank for situation, rank, number in table if situation == case.firsts][0]


def asked_by(table):
    """For each situation of a table the number of the question, None for a settled one."""
    return {situation: number for situation, rank, number in table}
