"""Situations: for each thing its stand, or -1 if it is out."""

from truthwell.case_wants import want_case
from truthwell.case_wants import want_case_at
from truthwell.case_wants import want_hearing
from truthwell.case_wants import want_numbers
from truthwell.case_wants import want_question
from truthwell.met import met_from
from truthwell.moves import answers_on
from truthwell.moves import is_done
from truthwell.moves import moved
from truthwell.moves import opened
from truthwell.rules import want_heap


def first(case):
    """The first situation."""
    want_case(case, "case")
    return case.firsts


def open_things(case, situation):
    """The things that are not out, ascending."""
    want_case_at(case, situation)
    return tuple(opened(situation))


def is_settled(case, situation):
    """Whether no group is open altogether."""
    want_case_at(case, situation)
    return is_done(case, situation)


def can_come(case, situation, number):
    """The answers to a question that can come, ascending."""
    want_case_at(case, situation)
    want_question(case, number)
    return tuple([told for told, behind in answers_on(case, situation, case.stock.questions[number])])


def after(case, situation, number, told):
    """The situation behind an answer."""
    want_case_at(case, situation)
    want_question(case, number)
    want_heap(case, told)
    return moved(case, situation, case.stock.questions[number], told)


def behind_all(case, situation, numbers, hearing):
    """The situation behind the answers of a hearing, one behind another."""
    want_case_at(case, situation)
    want_numbers(case, numbers)
    want_hearing(case, numbers, hearing)
    behind = tuple(situation)
    for number, told in zip(numbers, hearing):
        behind = moved(case, behind, case.stock.questions[number], told)
    return behind


def come_about(case):
    """The situations that come about, in the order in which they are met."""
    want_case(case, "case")
    return tuple(met_from(case, case.firsts)[0])
