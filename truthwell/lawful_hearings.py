"""The hearings of a list that are lawful for some thing, and the tables that tell what they leave."""

from truthwell.moves import Mover
from truthwell.moves import opened


def hearings_within(case, numbers, most):
    """The pairs (hearing, situation behind it) of the hearings that are lawful for some thing, ascending;
    None if there are more than most.

    Each hearing of some questions can be gone on with: so there are never fewer behind more of them.
    """
    mover = Mover(case)
    rows = [((), case.firsts)]
    for number in numbers:
        rows = [(hearing + (told,), behind) for hearing, situation in rows
                for told, behind in mover.answers(situation, number)]
        if len(rows) > most:
            return None
    return rows


def mending_table(rows):
    """The pairs (hearing, open things) of these hearings."""
    return tuple([(hearing, tuple(opened(situation))) for hearing, situation in rows])
