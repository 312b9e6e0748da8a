"""What is passed for a case, or for something of one: its errors."""

from truthwell.cases import Case
from truthwell.checks import is_within
from truthwell.errors import BadCase
from truthwell.errors import BadHearing
from truthwell.errors import BadList
from truthwell.errors import BadSituation
from truthwell.errors import NoHeap
from truthwell.errors import NoQuestion
from truthwell.lists import first_outside
from truthwell.lists import is_list


def want_case(case, part):
    """Raises BadCase for what is no case."""
    if not isinstance(case, Case):
        raise BadCase(part)


def want_question(case, number):
    """Raises NoQuestion for what is no number of a question of the case."""
    if not is_within(number, 0, len(case.stock.questions) - 1):
        raise NoQuestion(number)


def is_situation(case, value):
    """Whether a value is a list of a stand, or -1, for each thing."""
    if not is_list(value) or len(value) != case.things:
        return False
    return all([is_within(stand, -1, len(case.rule.rows) - 1) for stand in value])


def want_situation(case, situation, part):
    """Raises BadSituation for what is no situation of the case."""
    if not is_situation(case, situation):
        raise BadSituation(part)


def want_case_at(case, situation):
    """For what is no case, or no situation of it, their errors."""
    want_case(case, "case")
    want_situation(case, situation, "situation")


def want_numbers(case, numbers):
    """For what is no list of numbers of questions of the case, its errors."""
    if not is_list(numbers):
        raise BadList("numbers")
    wrong = first_outside(numbers, len(case.stock.questions))
    if wrong is not None:
        raise NoQuestion(numbers[wrong])


def want_hearing(case, numbers, hearing):
    """For what is no list of a heap for each of these questions, its errors."""
    if not is_list(hearing) or len(hearing) != len(numbers):
        raise BadHearing("hearing")
    wrong = first_outside(hearing, case.heaps)
    if wrong is not None:
        raise NoHeap(hearing[wrong])
