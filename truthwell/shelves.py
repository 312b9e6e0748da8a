"""Which situations are no freer than others: looked up for many of them at once."""

from truthwell.moves import OUT
from truthwell.two_stands import parting_lengths


def freer_rows(rule):
    """For each stand, for each one, whether the former is no freer than the latter."""
    return [[length is None for length in row] for row in parting_lengths(rule)]


class Shelf:
    """Some situations in an order, by which those are found that are no freer than a given one.

    Sets of them are integers, with a bit for each one: so all are asked at once.
    """

    def __init__(self, freer, situations):
        self.freer = freer
        self.everything = (1 << len(situations)) - 1
        self.marks = [marks_of([situation[thing] for situation in situations])
                      for thing in range(len(situations[0]) if situations else 0)]
        self.known = {}

    def within(self, situation):
        """Those that are no freer than this situation."""
        found = self.everything
        for thing, marks in enumerate(self.marks):
            found = found & self.mark_at(thing, marks, situation[thing])
        return found

    def mark_at(self, thing, marks, stand):
        """Those whose stand of this thing is no freer than this one."""
        if (thing, stand) not in self.known:
            found = 0
            for other in marks:
                if other == OUT or (stand != OUT and self.freer[other][stand]):
                    found = found | marks[other]
            self.known[(thing, stand)] = found
        return self.known[(thing, stand)]

    def first_for(self, situation):
        """The index of the first one that stands for this situation; None if there is none."""
        found = self.within(situation)
        return None if found == 0 else first_bit(found)


def marks_of(stands):
    """For each stand the indices at which it stands, as bits."""
    marks = {}
    for at, stand in enumerate(stands):
        marks[stand] = marks.get(stand, 0) | (1 << at)
    return marks


def first_bit(found):
    """The index of the least bit of an integer above 0."""
    return (found & -found).bit_length() - 1


def least_free_of(freer, situations):
    """Of unlike situations, ascending, those than which no other one is less free; of those that are
    each no freer than the other, the first one alone."""
    likes = [first_like(freer, stand) for stand in range(len(freer))]
    firsts = {}
    for situation in situations:
        firsts.setdefault(tuple([OUT if stand == OUT else likes[stand] for stand in situation]), situation)
    forms = list(firsts)
    shelf = Shelf(freer, forms)
    return sorted([firsts[form] for at, form in enumerate(forms) if shelf.within(form) == 1 << at])


def first_like(freer, stand):
    """The least stand that is no freer than this one, and the other way round."""
    return min([other for other, row in enumerate(freer) if row[stand] and freer[stand][other]])
