"""Whom to ask: crews of answerers that are enough, and those that are short."""

from truthwell.books import MOST_ASKED
from truthwell.books import find_book
from truthwell.case_wants import want_case
from truthwell.changed import with_questions
from truthwell.depths import find_plan
from truthwell.errors import BadList
from truthwell.errors import NoAnswerer
from truthwell.growing import all_sets
from truthwell.growing import greatest_pairs
from truthwell.growing import parted_sets
from truthwell.lists import first_outside
from truthwell.lists import is_list
from truthwell.lists import want_number_or_none
from truthwell.papers import Denial
from truthwell.papers import Paper
from truthwell.rings import find_ring


class Crews(Paper):
    """The least crews that are enough, each with its Plan, and the greatest short ones, with Books or Rings."""

    def __init__(self, enough, short):
        super().__init__("crews", enough, short)
        self.enough = self.parts[0]
        self.short = self.parts[1]


class NoCrew(Denial):
    """The greatest short crews, with Books or Rings, where none is enough."""

    def __init__(self, short):
        super().__init__("nocrew", short)
        self.short = self.parts[0]


def asked_only(case, answerers):
    """The case with the questions to these answerers alone."""
    want_case(case, "case")
    if not is_list(answerers):
        raise BadList("answerers")
    wrong = first_outside(answerers, case.answerers)
    if wrong is not None:
        raise NoAnswerer(answerers[wrong])
    return case_of_crew(case, answerers)


def case_of_crew(case, crew):
    """The case with the questions to these answerers alone."""
    return with_questions(case, [question for question in case.stock.questions if question.who in crew])


def want_most(most):
    """Raises BadNumber for what is no number of questions here, nor None."""
    want_number_or_none(most, 0, MOST_ASKED, "most")


def shown_short(case, most):
    """The Book of a case that is short, for most; for None the Ring."""
    return find_ring(case) if most is None else find_book(case, most)


def crews(case, most=None):
    """The Crews; the NoCrew, if no crew is enough."""
    want_case(case, "case")
    want_most(most)
    sets = all_sets(list(range(case.answerers)))
    enough, short = parted_sets(sets, lambda crew: find_plan(case_of_crew(case, crew), most), True)
    pairs = [(crew, shown_short(case_of_crew(case, crew), most)) for crew, _ in greatest_pairs(short)]
    return Crews(enough, pairs) if enough else NoCrew(pairs)
