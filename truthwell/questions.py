"""Questions: who is asked, and what is true for each thing."""

from truthwell.checks import is_within
from truthwell.errors import BadQuestion
from truthwell.errors import NoAnswerer
from truthwell.errors import NoThing
from truthwell.errors import TooMany
from truthwell.lists import are_integers
from truthwell.lists import first_outside
from truthwell.words import Words

MOST_ANSWERERS = 4
MOST_HEAPS = 3
MOST_THINGS = 16


class Question:
    """Asks an answerer in which heap the truth is; it tells a heap for each thing."""

    def __init__(self, who, heaps):
        if not is_within(who, 0, MOST_ANSWERERS - 1):
            raise NoAnswerer(who)
        if not are_integers(heaps) or len(heaps) == 0 or first_outside(heaps, MOST_HEAPS) is not None:
            raise BadQuestion("heaps")
        if len(heaps) > MOST_THINGS:
            raise TooMany("things", MOST_THINGS)
        self.who = who
        self.heaps = tuple(heaps)
        self.is_idle = min(heaps) == max(heaps)

    @classmethod
    def read(cls, text):
        """The question whose text this is."""
        words = Words(text)
        who, heaps = read_question(words)
        words.end()
        return cls(who, heaps)

    def parts(self, x, y):
        """Whether the two things are in unlike heaps."""
        wrong = first_outside([x, y], len(self.heaps))
        if wrong is not None:
            raise NoThing([x, y][wrong])
        return self.heaps[x] != self.heaps[y]

    def __len__(self):
        return len(self.heaps)

    def __eq__(self, other):
        return isinstance(other, Question) and self.who == other.who and self.heaps == other.heaps

    def __str__(self):
        return f"{self.who} {heaps_word(self.heaps)}"


def read_question(words):
    """The answerer and the heaps of the question whose words stand here."""
    return words.take_number(0, MOST_ANSWERERS - 1), words.take_digits(1, MOST_THINGS, MOST_HEAPS)


def heaps_word(heaps):
    """The word that tells these heaps."""
    return "".join([str(heap) for heap in heaps])
