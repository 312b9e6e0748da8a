"""Weights: how many hearings are lawful, whatever is asked, and for how many there is room."""

from truthwell.books import MOST_ASKED
from truthwell.books import Book
from truthwell.case_wants import want_case
from truthwell.case_wants import want_case_at
from truthwell.case_wants import want_question
from truthwell.led_layers import all_kept
from truthwell.led_layers import led_layers
from truthwell.lists import want_number
from truthwell.moves import Mover
from truthwell.rule_wants import want_rule_at
from truthwell.weight_sums import is_heavy
from truthwell.weight_sums import least_weighed
from truthwell.weight_sums import parting_well
from truthwell.weight_sums import room_for
from truthwell.weight_sums import situation_weight
from truthwell.weight_sums import stand_weights
from truthwell.weight_sums import want_answers
from truthwell.weight_sums import want_even
from truthwell.weight_sums import weights_behind


def weight(rule, stand, answers):
    """The weight of a stand for so many answers."""
    want_rule_at(rule, stand)
    want_answers(answers, 0)
    want_even(rule)
    return stand_weights(rule, answers)[stand]


def weight_of(case, situation, answers):
    """The weight of a situation for so many answers."""
    want_case_at(case, situation)
    want_answers(answers, 0)
    want_even(case.rule)
    return situation_weight(case, stand_weights(case.rule, answers), situation)


def room(case, answers):
    """The room for so many answers."""
    want_case(case, "case")
    want_answers(answers, 0)
    return room_for(case, answers)


def heaviest(case, situation, number, answers):
    """The pair (told, weight) of the least answer behind which the weight for one answer less is greatest."""
    want_case_at(case, situation)
    want_question(case, number)
    want_answers(answers, 1)
    want_even(case.rule)
    return heaviest_answer(case, stand_weights(case.rule, answers - 1), Mover(case), situation, number)


def heaviest_answer(case, weights, mover, situation, number):
    """The pair (told, weight) of the least answer behind which the weight is greatest."""
    found = weights_behind(case, weights, mover, situation, number)
    return found.index(max(found)), max(found)


def well_parted(case, situation, answers):
    """The questions behind each answer to which there is room for one answer less, ascending."""
    want_case_at(case, situation)
    want_answers(answers, 1)
    want_even(case.rule)
    return parting_well(case, situation, answers)


def weighed(case):
    """The least number of answers for which there is room for the first situation; None if it is above 12."""
    want_case(case, "case")
    want_even(case.rule)
    return least_weighed(case)


def heavy_book(case, most):
    """A right Book for most by weights alone; None if there is room for the first situation."""
    want_case(case, "case")
    want_number(most, 0, MOST_ASKED, "most")
    want_even(case.rule)
    if not is_heavy(case, case.firsts, most):
        return None
    mover = Mover(case)

    def answers_at(situation, state, rest):
        """The heaviest answers, and what is behind them."""
        weights = stand_weights(case.rule, rest - 1)
        told = [heaviest_answer(case, weights, mover, situation, number)[0]
                for number in range(len(case.stock.questions))]
        return [(heap, mover.behind(situation, number, heap), None) for number, heap in enumerate(told)]

    return Book(led_layers(case.firsts, None, most, answers_at, all_kept))
