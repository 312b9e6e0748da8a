"""Rules of lying, told stand by stand."""

from truthwell.checks import is_within
from truthwell.errors import NoAnswerer
from truthwell.errors import NoHeap
from truthwell.errors import NoStand
from truthwell.errors import TooMany
from truthwell.lists import want_number
from truthwell.papers import fixed
from truthwell.rule_rows import are_even
from truthwell.rule_rows import read_rows
from truthwell.rule_rows import rule_words
from truthwell.rule_rows import want_rows
from truthwell.triples import place_of
from truthwell.words import Words


class Rule:
    """For each stand and each triple (who, true, told) the next stand, or None where it is barred."""

    MOST = 64

    def __init__(self, answerers, heaps, rows):
        want_number(answerers, 1, 4, "answerers")
        want_number(heaps, 2, 3, "heaps")
        want_rows(answerers, heaps, rows)
        if len(rows) > Rule.MOST:
            raise TooMany("stands", Rule.MOST)
        self.answerers = answerers
        self.heaps = heaps
        self.rows = fixed(rows)
        self.is_even = are_even(answerers, heaps, rows)

    @classmethod
    def read(cls, text):
        """The rule whose text this is."""
        words = Words(text)
        answerers, heaps, rows = read_rule(words)
        words.end()
        return cls(answerers, heaps, rows)

    def behind(self, stand, who, true, told):
        """The next stand; None if the triple is barred."""
        want_stand(self, stand)
        want_answerer(self, who)
        want_heap(self, true)
        want_heap(self, told)
        return self.rows[stand][place_of(self.heaps, who, true, told)]

    def let(self, stand, who, true):
        """The ascending tuple of the told heaps that are let."""
        want_stand(self, stand)
        want_answerer(self, who)
        want_heap(self, true)
        begin = place_of(self.heaps, who, true, 0)
        row = self.rows[stand]
        return tuple([told for told in range(self.heaps) if row[begin + told] is not None])

    def __len__(self):
        return len(self.rows)

    def __eq__(self, other):
        return (isinstance(other, Rule) and self.answerers == other.answerers
                and self.heaps == other.heaps and self.rows == other.rows)

    def __str__(self):
        return " ".join(rule_words(self.answerers, self.heaps, self.rows))


def read_rule(words):
    """The answerers, the heaps and the rows of the rule whose words stand here."""
    answerers = words.take_number(1, 4)
    heaps = words.take_number(2, 3)
    return answerers, heaps, read_rows(words, answerers, heaps, Rule.MOST)


def want_stand(rule, stand):
    """Raises NoStand for what is no stand of the rule."""
    if not is_within(stand, 0, len(rule.rows) - 1):
        raise NoStand(stand)


def want_answerer(held, who):
    """Raises NoAnswerer for what is no answerer of a rule, a stock or a case."""
    if not is_within(who, 0, held.answerers - 1):
        raise NoAnswerer(who)


def want_heap(held, heap):
    """Raises NoHeap for what is no heap of a rule, a stock or a case."""
    if not is_within(heap, 0, held.heaps - 1):
        raise NoHeap(heap)
