"""Desks: values by names, and lines that are told."""

from truthwell.checks import is_name
from truthwell.desk_deeds import done
from truthwell.desk_deeds import is_changing
from truthwell.desk_looks import looked
from truthwell.desk_words import read_line
from truthwell.errors import BadLine
from truthwell.errors import BadList
from truthwell.errors import NoDeed
from truthwell.errors import NoName
from truthwell.errors import WellError
from truthwell.evenings import Evening
from truthwell.lists import is_list


class Desk:
    """Values by names; it changes by its own methods alone."""

    def __init__(self):
        self.many = 0
        self.told = []
        self.show({})

    def show(self, kept):
        """Makes this what is kept. It is never changed: each changing line makes a new one."""
        self.kept = kept
        self.names = tuple(sorted(kept))

    def tell(self, line):
        """Does a line, and returns its answer."""
        try:
            word, answer, kept = answered(self.kept, line)
        except WellError as error:
            raise BadLine(self.many, error)
        if is_changing(word):
            self.told.append((line, self.kept))
        self.show(kept)
        self.many += 1
        return answer

    def run(self, lines):
        """Does lines, one behind another, and returns their answers; all of them or none."""
        if not is_list(lines):
            raise BadList("lines")
        kept = self.kept
        told = list(self.told)
        many = self.many
        answers = []
        try:
            for line in list(lines):
                answers.append(self.tell(line))
        except BadLine:
            self.told = told
            self.many = many
            self.show(kept)
            raise
        return answers

    def back(self):
        """Takes back the latest changing line that is not taken back."""
        if len(self.told) == 0:
            raise NoDeed()
        line, kept = self.told.pop()
        self.show(kept)

    def value_of(self, name):
        """The value with a name; of an evening a twin."""
        if name not in self:
            raise NoName(name)
        value = self.kept[name]
        return value.twin() if isinstance(value, Evening) else value

    def lines(self):
        """The changing lines but those that are taken back."""
        return tuple([line for line, kept in self.told])

    def __len__(self):
        return len(self.kept)

    def __contains__(self, name):
        return is_name(name) and name in self.kept


def answered(kept, line):
    """The first word of a line, the answer to it, and what is kept behind it."""
    word, told = read_line(kept, line)
    if is_changing(word):
        answer, behind = done(kept, word, told)
        return word, answer, behind
    return word, looked(kept, word, told), kept
