"""Situations, and what stands behind answers, for what was checked before."""

from truthwell.triples import place_of
from truthwell.wishes import is_met_by

OUT = -1


def opened(situation):
    """The things that are not out, ascending."""
    return [thing for thing, stand in enumerate(situation) if stand != OUT]


def is_done(case, situation):
    """Whether no group is open altogether."""
    return is_met_by(case.wish, opened(situation))


def moved(case, situation, question, told):
    """The situation behind an answer."""
    rows = case.rule.rows
    places = [place_of(case.heaps, question.who, true, told) for true in range(case.heaps)]
    behind = [None if stand == OUT else rows[stand][places[true]] for stand, true in zip(situation, question.heaps)]
    return tuple([OUT if stand is None else stand for stand in behind])


def is_open(situation):
    """Whether something is open."""
    return max(situation) != OUT


def answers_on(case, situation, question):
    """The pairs (told, what stands behind it) of the answers that can come, ascending."""
    pairs = [(told, moved(case, situation, question, told)) for told in range(case.heaps)]
    return [(told, behind) for told, behind in pairs if is_open(behind)]


class Mover:
    """Where answers lead in a case: made once, for many situations."""

    def __init__(self, case):
        size = case.answerers * case.heaps * case.heaps
        rows = [[OUT if entry is None else entry for entry in row] for row in case.rule.rows]
        # What is out has the stand -1, which finds the last row: so it stays out.
        self.rows = rows + [[OUT] * size]
        self.places = [places_by(case, question) for question in case.stock.questions]

    def behind(self, situation, number, told):
        """The situation behind an answer."""
        rows = self.rows
        return tuple([rows[stand][place] for stand, place in zip(situation, self.places[number][told])])

    def answers(self, situation, number):
        """The pairs (told, what stands behind it) of the answers that can come, ascending."""
        pairs = [(told, self.behind(situation, number, told)) for told in range(len(self.places[number]))]
        return [(told, behind) for told, behind in pairs if is_open(behind)]


def places_by(case, question):
    """For each heap that may be told, for each thing, where the rows of the rule tell of this answer."""
    return [[place_of(case.heaps, question.who, true, told) for true in question.heaps]
            for told in range(case.heaps)]
