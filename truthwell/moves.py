"""Situations, and what stands behind answers, for what was checked before."""

from truthwell.triples import place_of
from truthwell.wishes import is_met_by

OUT = -1


def opened(situation):
    """The things that are not out, ascending."""
    return [thing for thing, stand in enumerate(situation) if stand != OUT]


def is_done(case, situation):
    """Whether no group is open altogether."""
    return is_met_by(case.wish, opened(situation))


def moved(case, situation, question, told):
    """The situation behind an answer."""
    rows = case.rule.rows
    places = [place_of(case.heaps, question.who, true, told) for true in range(case.heaps)]
    behind = [None if stand == OUT else rows[stand][places[true]] for stand, true in zip(situation, question.heaps)]
    return tuple([OUT if stand is None else stand for stand in behind])


def is_open(situation):
    """Whether something is open."""
    return any([stand != OUT for stand in situation])


def answers_on(case, situation, question):
    """The pairs (told, what stands behind it) of the answers that can come, ascending."""
    pairs = [(told, moved(case, situation, question, told)) for told in range(case.heaps)]
    return [(told, behind) for told, behind in pairs if is_open(behind)]


def all_behind(case, situation):
    """What stands behind the answers that can come, question by question, if this is not settled."""
    if is_done(case, situation):
        return []
    return [behind for question in case.stock.questions for told, behind in answers_on(case, situation, question)]
