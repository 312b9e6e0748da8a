"""The states of an evening: what is asked and heard by now, and what each deed makes of it."""

from truthwell.checks import is_within
from truthwell.errors import Broken
from truthwell.errors import Heard
from truthwell.errors import NoAsked
from truthwell.errors import Unheard
from truthwell.log_walks import begun_stands
from truthwell.log_walks import is_gone
from truthwell.log_walks import stands_behind


class State:
    """What an evening is behind a deed; states never change.

    ahead is the state ahead of this deed, many tells how many questions were asked by now, also forgotten
    ones. rows are (asking, number, told), told None for what is unheard; levels tell for each thing its
    stands, ahead of the first row and behind each one.
    """

    def __init__(self, ahead, deed, many, rows, levels):
        self.ahead = ahead
        self.deed = deed
        self.many = many
        self.rows = rows
        self.levels = levels


def begun_state(case):
    """The state in which nothing is asked."""
    return State(None, None, 0, (), (begun_stands(case),))


def place_in(state, asking):
    """The place of an asking; NoAsked for any other value, and for a forgotten one."""
    if is_within(asking, 0, state.many - 1):
        for place, row in enumerate(state.rows):
            if row[0] == asking:
                return place
    raise NoAsked(asking)


def with_rows(case, state, deed, many, rows, place):
    """The state behind a deed, with these rows, of which those ahead of a place stay."""
    levels = list(state.levels[:place + 1])
    for asking, number, told in rows[place:]:
        levels.append(stands_behind(case, levels[-1], number, told))
    return State(state, deed, many, rows, tuple(levels))


def state_asked(case, state, number):
    """The state behind one more question."""
    rows = state.rows + ((state.many, number, None),)
    return with_rows(case, state, ("ask", number), state.many + 1, rows, len(rows) - 1)


def state_heard(case, state, asking, told):
    """The state behind an answer; Heard if there was one, Broken if nothing would be open."""
    place = place_in(state, asking)
    if state.rows[place][2] is not None:
        raise Heard(asking)
    behind = with_told(case, state, ("hear", asking, told), place, told)
    if is_gone(behind.levels[-1]):
        raise Broken(asking)
    return behind


def state_unheard(case, state, asking):
    """The state without an answer; Unheard if there was none."""
    place = place_in(state, asking)
    if state.rows[place][2] is None:
        raise Unheard(asking)
    return with_told(case, state, ("unhear", asking), place, None)


def with_told(case, state, deed, place, told):
    """The state with this answer in the place of another one."""
    asking, number, _ = state.rows[place]
    rows = state.rows[:place] + ((asking, number, told),) + state.rows[place + 1:]
    return with_rows(case, state, deed, state.many, rows, place)


def state_forgotten(case, state, asking):
    """The state without an asking; Broken if nothing would be open."""
    place = place_in(state, asking)
    rows = state.rows[:place] + state.rows[place + 1:]
    behind = with_rows(case, state, ("forget", asking), state.many, rows, place)
    if is_gone(behind.levels[-1]):
        raise Broken(asking)
    return behind
