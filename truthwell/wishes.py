"""Wishes: what shall be known in the end."""

from truthwell.errors import BadList
from truthwell.errors import BadWish
from truthwell.errors import NoThing
from truthwell.errors import TooMany
from truthwell.errors import Unlike
from truthwell.lists import are_integers
from truthwell.lists import choices
from truthwell.lists import first_outside
from truthwell.lists import is_list
from truthwell.lists import want_number
from truthwell.words import Words

MOST_THINGS = 16


class Wish:
    """The class of the truth is wished for, or that at most so many things are left."""

    def __init__(self, classes=None, most=None):
        if classes is not None and not are_classes(classes):
            raise BadWish("classes")
        if most is not None:
            want_number(most, 1, MOST_THINGS, "most")
        if (classes is None) == (most is None):
            raise BadWish("wish")
        if classes is not None and len(classes) > MOST_THINGS:
            raise TooMany("things", MOST_THINGS)
        self.classes = None if classes is None else numbered(classes)
        self.most = most

    @classmethod
    def read(cls, text):
        """The wish whose text this is."""
        words = Words(text)
        classes, most = read_wish(words, 1, MOST_THINGS)
        words.end()
        return cls(classes, most)

    @staticmethod
    def of(classes):
        """The wish for the class of the truth."""
        if not are_classes(classes):
            raise BadWish("classes")
        return Wish(classes)

    @staticmethod
    def left(most):
        """The wish that at most so many things are left."""
        want_number(most, 1, MOST_THINGS, "most")
        return Wish(None, most)

    @staticmethod
    def each(things):
        """The wish for the truth itself, one of so many things."""
        want_number(things, 1, MOST_THINGS, "things")
        return Wish(list(range(things)))

    def groups(self, things):
        """The groups of so many things that may not be left together."""
        want_number(things, 1, MOST_THINGS, "things")
        if self.classes is None:
            return tuple(choices(things, self.most + 1))
        if len(self.classes) != things:
            raise Unlike("things")
        return tuple([(x, y) for x, y in choices(things, 2) if self.classes[x] != self.classes[y]])

    def is_met(self, some):
        """Whether these things may be left together."""
        if not is_list(some):
            raise BadList("some")
        wrong = first_outside(some, MOST_THINGS if self.classes is None else len(self.classes))
        if wrong is not None:
            raise NoThing(some[wrong])
        return is_met_by(self, some)

    def __eq__(self, other):
        return isinstance(other, Wish) and self.classes == other.classes and self.most == other.most

    def __str__(self):
        if self.classes is None:
            return f"most {self.most}"
        return " ".join(["classes"] + [str(told) for told in self.classes])


def are_classes(value):
    """Whether a value is a list of one or more integers."""
    return are_integers(value) and len(value) > 0


def numbered(classes):
    """The classes, numbered from 0 as they first come."""
    numbers = {}
    for told in classes:
        numbers.setdefault(told, len(numbers))
    return tuple([numbers[told] for told in classes])


def is_met_by(wish, some):
    """Whether a wish is met by these things, which it has."""
    if wish.classes is None:
        return len(set(some)) <= wish.most
    return len({wish.classes[thing] for thing in some}) <= 1


def read_wish(words, least, most):
    """The classes, of least to most things, and the number whose words stand here; one is None."""
    if words.sees("most"):
        words.skip("most")
        return None, words.take_number(1, MOST_THINGS)
    words.skip("classes")
    classes = []
    while len(classes) < least or (len(classes) < most and words.is_left()):
        # A class has the next number where it first comes, so no greater one can stand.
        classes.append(words.take_number(0, len(set(classes))))
    return classes, None
