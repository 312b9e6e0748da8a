"""Which answers show that a log is broken."""

from truthwell.errors import TooMany
from truthwell.late import want_log
from truthwell.lists import are_integers
from truthwell.lists import choices
from truthwell.log_walks import heard_at
from truthwell.log_walks import heard_places
from truthwell.log_walks import is_gone
from truthwell.log_walks import stands_along
from truthwell.log_walks import stands_at_end
from truthwell.papers import Denial
from truthwell.papers import Paper

MOST_HEARD = 8


class Breaks(Paper):
    """The fewest heard places whose answers show that a log is broken, and when each thing falls by them."""

    def __init__(self, places, falls):
        super().__init__("breaks", places, falls)
        self.places = self.parts[0]
        self.falls = self.parts[1]


class Lawful(Denial):
    """The stands that a log leaves, which is not broken."""

    def __init__(self, stands):
        super().__init__("lawful", stands)
        self.stands = self.parts[0]


def fewest_that_show(case, numbers, heard):
    """The Breaks of a broken log; the Lawful of any other one."""
    want_log(case, numbers, heard)
    places = heard_places(heard)
    if len(places) > MOST_HEARD:
        raise TooMany("heard", MOST_HEARD)
    left = stands_at_end(case, numbers, heard)
    if not is_gone(left):
        return Lawful(left)
    shown = first_breaking(case, numbers, heard, places)
    return Breaks(shown, falls_by(case, numbers, heard, shown))


def first_breaking(case, numbers, heard, places):
    """The fewest of these places whose answers alone break a broken log, of equally few the first ones."""
    for many in range(len(places)):
        for chosen in choices(len(places), many):
            shown = [places[at] for at in chosen]
            if is_breaking(case, numbers, heard, shown):
                return shown
    return places


def is_breaking(case, numbers, heard, places):
    """Whether the answers at these places alone break a log."""
    return is_gone(stands_at_end(case, numbers, heard_at(heard, places)))


def falls_by(case, numbers, heard, places):
    """For each thing the least number of askings behind which it is out, with the answers at these places alone."""
    along = stands_along(case, numbers, heard_at(heard, places))
    return tuple([[len(left[thing]) for left in along].index(0) for thing in range(case.things)])


def shows_broken(case, numbers, heard, value):
    """Whether any value is a right Breaks or a right Lawful of the log."""
    want_log(case, numbers, heard)
    if isinstance(value, Breaks):
        return is_right_breaks(case, numbers, heard, value)
    if not isinstance(value, Lawful) or not isinstance(value.stands, tuple):
        return False
    left = stands_at_end(case, numbers, heard)
    return not is_gone(left) and all([are_integers(stands) for stands in value.stands]) and value.stands == left


def is_right_breaks(case, numbers, heard, value):
    """Whether a Breaks tells fewest places that break the log, and their falls."""
    places = heard_places(heard)
    if len(places) > MOST_HEARD or not are_integers(value.places) or not are_integers(value.falls):
        return False
    if not all([one < two for one, two in zip(value.places, value.places[1:])]):
        return False
    if not all([place in places for place in value.places]) or not is_breaking(case, numbers, heard, value.places):
        return False
    fewest = first_breaking(case, numbers, heard, places)
    return len(fewest) == len(value.places) and value.falls == falls_by(case, numbers, heard, value.places)
