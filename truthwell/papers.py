"""Papers: an answer and what shows it."""


def fixed(value):
    """The value with each list in it as a tuple, all the way in through lists and tuples."""
    if isinstance(value, (list, tuple)):
        return tuple([fixed(item) for item in value])
    return value


class Paper:
    """An answer and what shows it; it is true."""

    def __init__(self, word, *parts):
        self.word = word
        self.parts = fixed(parts)

    def __eq__(self, other):
        return (isinstance(other, Paper) and type(self) is type(other)
                and self.word == other.word and self.parts == other.parts)

    def __bool__(self):
        return True


class Denial(Paper):
    """A paper that says no; it is false."""

    def __init__(self, word, *parts):
        self.word = word
        self.parts = fixed(parts)

    def __eq__(self, other):
        return (isinstance(other, Denial) and type(self) is type(other)
                and self.word == other.word and self.parts == other.parts)

    def __bool__(self):
        return False
