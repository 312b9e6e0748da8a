"""Lists of entries: situations that are not settled, with an answer to each question."""

from truthwell.case_wants import is_situation
from truthwell.errors import TooMany
from truthwell.lists import first_outside
from truthwell.moves import Mover
from truthwell.moves import is_done
from truthwell.moves import is_open
from truthwell.papers import Denial
from truthwell.shelves import Shelf
from truthwell.shelves import freer_rows

MOST_ENTRIES = 300


class Endless(Denial):
    """A denial by one list of entries, which answers any questions whatever.

    It stands here, below the files of books and of rings, as each of the two asks for the other.
    """

    def __init__(self, word, table):
        super().__init__(word, table)
        self.table = self.parts[0]


def want_layer(entries):
    """Raises TooMany for a list of too many entries, or of too many situations that get answers."""
    if len(entries) > MOST_ENTRIES:
        raise TooMany("layer", MOST_ENTRIES)


class Held:
    """A list of entries, by which is looked up which of them stands for a situation."""

    def __init__(self, freer, entries):
        self.entries = entries
        self.told = {situation: answers for situation, answers in entries}
        self.shelf = Shelf(freer, [situation for situation, answers in entries])

    def first_for(self, situation):
        """The first situation of these that stands for this one; None if there is none."""
        at = self.shelf.first_for(situation)
        return None if at is None else self.entries[at][0]


def is_right_book(case, layers):
    """Whether any value is the layers of a right book of the case, for as many questions as it may be."""
    if not isinstance(layers, tuple) or len(layers) == 0:
        return False
    size = len(case.stock.questions)
    if not are_entries(case, layers[-1], 0) or not all([are_entries(case, layer, size) for layer in layers[:-1]]):
        return False
    freer = freer_rows(case.rule)
    mover = Mover(case)
    held = [Held(freer, layer) for layer in layers]
    if held[0].first_for(case.firsts) is None:
        return False
    return all([is_closed_in(mover, layer, behind) for layer, behind in zip(layers, held[1:])])


def is_right_ring(case, table):
    """Whether any value is the table of a right ring of the case."""
    if not are_entries(case, table, len(case.stock.questions)):
        return False
    held = Held(freer_rows(case.rule), table)
    return held.first_for(case.firsts) is not None and is_closed_in(Mover(case), table, held)


def are_entries(case, entries, size):
    """Whether this is a list of entries with so many answers each, ascending, each situation once."""
    if not isinstance(entries, tuple) or not all([is_entry(case, entry, size) for entry in entries]):
        return False
    situations = [entry[0] for entry in entries]
    return all([one < two for one, two in zip(situations, situations[1:])])


def is_entry(case, entry, size):
    """Whether this is a situation that is not settled, and a heap for each of so many questions."""
    if not isinstance(entry, tuple) or len(entry) != 2:
        return False
    situation, answers = entry
    if not isinstance(situation, tuple) or not is_situation(case, situation) or is_done(case, situation):
        return False
    if not isinstance(answers, tuple) or len(answers) != size:
        return False
    return first_outside(answers, case.heaps) is None


def is_closed_in(mover, entries, held):
    """Whether each answer of the entries can come, and one of what is held stands for what is behind it."""
    for situation, answers in entries:
        for number, told in enumerate(answers):
            behind = mover.behind(situation, number, told)
            if not is_open(behind) or held.first_for(behind) is None:
                return False
    return True
