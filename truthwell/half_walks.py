"""Situations in two halves: what stands behind answers is looked up for each half alone."""

from truthwell.errors import TooMany
from truthwell.moves import OUT
from truthwell.moves import Mover

MOST_SITUATIONS = 4096


class Half:
    """Some things of a case, one behind another: their stands are numbered as they are met; 0 is all out."""

    def __init__(self, mover, begin, end):
        self.rows = mover.rows
        self.places = [places[begin:end] for question in mover.places for places in question]
        self.met = [(OUT,) * (end - begin)]
        self.numbers = {self.met[0]: 0}
        self.steps = {}

    def number_of(self, stands):
        """The number of the stands of these things."""
        if stands not in self.numbers:
            self.numbers[stands] = len(self.met)
            self.met.append(stands)
        return self.numbers[stands]

    def behind(self, number):
        """For each question, for each heap that may be told, the number of what is behind this answer."""
        if number not in self.steps:
            rows = self.rows
            stands = self.met[number]
            found = [tuple([rows[stand][place] for stand, place in zip(stands, places)]) for places in self.places]
            self.steps[number] = [self.number_of(behind) for behind in found]
        return self.steps[number]


class Walk:
    """The situations that are met from one, numbered, each also as a pair of its halves."""

    def __init__(self, case, situation):
        mover = Mover(case)
        middle = case.things // 2
        self.begin = Half(mover, 0, middle)
        self.rest = Half(mover, middle, case.things)
        pair = (self.begin.number_of(situation[:middle]), self.rest.number_of(situation[middle:]))
        self.met = [situation]
        self.pairs = [pair]
        self.numbers = {pair: 0}

    def behind(self, number):
        """For each question, for each heap, the number of what is behind this answer, None for one that
        cannot come."""
        one, two = self.pairs[number]
        halves = list(zip(self.begin.behind(one), self.rest.behind(two)))
        return [self.number_of(pair) for pair in halves]

    def number_of(self, pair):
        """The number of a situation, which is met now if it was not before; None if nothing is open in it."""
        if pair == (0, 0):
            return None
        if pair not in self.numbers:
            if len(self.met) == MOST_SITUATIONS:
                raise TooMany("situations", MOST_SITUATIONS)
            self.numbers[pair] = len(self.met)
            self.met.append(self.begin.met[pair[0]] + self.rest.met[pair[1]])
            self.pairs.append(pair)
        return self.numbers[pair]
