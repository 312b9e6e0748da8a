"""truthwell.broken."""

import time
import unittest
from itertools import combinations

from truthwell.broken import Breaks
from truthwell.broken import Lawful
from truthwell.broken import fewest_that_show
from truthwell.broken import shows_broken
from truthwell.cases import Case
from truthwell.errors import BadCase
from truthwell.errors import BadHearing
from truthwell.errors import BadList
from truthwell.errors import NoHeap
from truthwell.errors import NoQuestion
from truthwell.errors import TooMany
from truthwell.papers import Denial
from truthwell.papers import Paper
from truthwell.questions import Question
from truthwell.ready import anything
from truthwell.ready import at_most
from truthwell.ready import never_running
from truthwell.stocks import Stock
from truthwell.wishes import Wish

from bends import listed
from bends import some_bends
from helpers import Checks
from helpers import Draws
from helpers import ODD
from helpers import is_int
from plain_logs import cut_with
from plain_logs import log_broken
from plain_logs import log_open
from plain_logs import log_stands
from test_late import ONCE
from test_late import logs

EIGHT = ([0, 1] * 4, [1, None] * 4)


def fewest_places(case, numbers, heard):
    """The fewest heard places whose answers show that a log is broken, all of equally few; empty if it is not."""
    places = [place for place, told in enumerate(heard) if told is not None]
    for many in range(len(places) + 1):
        found = [some for some in combinations(places, many) if log_broken(case, numbers, cut_with(heard, some))]
        if found:
            return found
    return []


def falls_of(case, numbers, heard, places):
    cut = cut_with(heard, places)
    return tuple(min(many for many in range(len(numbers) + 1) if x not in log_open(case, numbers[:many], cut[:many])) for x in range(case.things))


def strict(value, other):
    return type(value) is type(other) and (value == other if not isinstance(other, tuple) else len(value) == len(other) and all(map(strict, value, other)))


def right(case, numbers, heard, value):
    """Whether a value shows it, by the words of the document."""
    if type(value) is Lawful:
        return any(log_stands(case, numbers, heard)) and strict(value.stands, log_stands(case, numbers, heard))
    if type(value) is not Breaks or sum(told is not None for told in heard) > 8:
        return False
    found = fewest_places(case, numbers, heard)
    return any(strict(value.places, some) and strict(value.falls, falls_of(case, numbers, heard, some)) for some in found)


class Fewest(Checks, unittest.TestCase):
    def test_against_all_sets(self):
        seen = set()
        for case, numbers, heard in logs(521, 12, 7):
            paper = fewest_that_show(case, numbers, heard)
            found = fewest_places(case, numbers, heard)
            if found:
                seen.add(len(found[0]))
                self.assertEqual(paper, Breaks(found[0], falls_of(case, numbers, heard, found[0])))
            else:
                self.assertEqual(paper, Lawful(log_stands(case, numbers, heard)))
            self.assertEqual(fewest_that_show(case, tuple(numbers), tuple(heard)), paper)
        self.assertTrue({1, 2, 3} <= seen)

    def test_edges(self):
        self.assertEqual(fewest_that_show(case=ONCE, numbers=[], heard=[]), Lawful([(0,), (0,)]))
        self.assertEqual(fewest_that_show(ONCE, [0, 0], [None, None]), Lawful([(0, 1), (0, 1)]))
        # What comes behind the break means nothing.
        self.assertEqual(fewest_that_show(ONCE, [1, 1, 0, 1], [1, 1, None, 0]).parts, ((0, 1), (2, 2)))
        # All that is heard is needed.
        case = Case.alike(Stock(2, 1, 2, [Question(0, [0, 0])]), at_most(7), Wish.each(2))
        self.assertEqual(fewest_that_show(case, [0] * 8, [1] * 8).parts, (tuple(range(8)), (8, 8)))

    def test_equally_few(self):
        """Of equally few places the first ones as tuples are ordered."""
        self.assertEqual(fewest_that_show(ONCE, [1, 1, 1, 1], [0, 1, 1, 1]).places, (1, 2))
        runs = Case.alike(Stock(2, 1, 2, [Question(0, [0, 0]), Question(0, [0, 1])]), never_running(), Wish.each(2))
        self.assertEqual(fewest_that_show(runs, [0, 0, 0, 0], [1, 0, 1, 1]).parts, ((2, 3), (4, 4)))

    def test_errors(self):
        for call in (fewest_that_show, lambda *args: shows_broken(*args, None)):
            self.odd(lambda value: call(value, None, None), lambda value: BadCase("case"))
            for value in ODD:
                if not isinstance(value, (list, tuple)):
                    self.raises(BadList("numbers"), call, ONCE, value, None)
                    self.raises(BadHearing("heard"), call, ONCE, [0], value)
                if not (is_int(value) and 0 <= value < 2):
                    self.raises(NoQuestion(value), call, ONCE, [0, value], None)
                    if value is not None:
                        self.raises(NoHeap(value), call, ONCE, [0] * 11, [None, value] + [0] * 9)
            self.raises(BadHearing("heard"), call, ONCE, [0, 0], [0])

    def test_too_many(self):
        begun = time.time()
        free = Case.alike(ONCE.stock, anything(), Wish.each(2))
        for case in (ONCE, free):
            for heard in ([0] * 9, [1] * 9, [0, None] * 9, [1] * 20):
                self.raises(TooMany("heard", 8), fewest_that_show, case, [0] * len(heard), heard)
        self.assertEqual(type(fewest_that_show(free, [0] * 20, [None] * 12 + [0] * 8)), Lawful)
        self.assertEqual(fewest_that_show(ONCE, [1] * 20, [None] * 12 + [0] * 6 + [1] * 2).parts, ((18, 19), (20, 20)))
        self.assertLess(time.time() - begun, 10)


class Shows(Checks, unittest.TestCase):
    def test_what_is_made(self):
        for case, numbers, heard in logs(522):
            paper = fewest_that_show(case, numbers, heard)
            self.assertTrue(shows_broken(case, numbers, heard, paper))
            self.assertTrue(shows_broken(case, numbers, heard, type(paper)(*listed(paper.parts))))

    def test_any_fewest(self):
        many = 0
        for case, numbers, heard in logs(523, 16, 6):
            for some in fewest_places(case, numbers, heard):
                many += 1
                self.assertTrue(shows_broken(case, numbers, heard, Breaks(some, falls_of(case, numbers, heard, some))))
        self.assertGreater(many, 200)
        self.assertFalse(shows_broken(ONCE, [1, 1, 1], [1, 1, 1], Breaks((0, 1, 2), (2, 2))))
        self.assertTrue(shows_broken(ONCE, [1, 1, 1], [1, 1, 1], Breaks((1, 2), (3, 3))))

    def test_bent(self):
        draws = Draws(524)
        seen = {True: 0, False: 0}
        for case, numbers, heard in logs(525, 6):
            paper = fewest_that_show(case, numbers, heard)
            for parts in some_bends(draws, paper.parts, 60):
                if isinstance(parts, tuple) and len(parts) == len(paper.parts):
                    value = type(paper)(*parts)
                    wanted = right(case, numbers, heard, value)
                    seen[wanted] += 1
                    self.assertIs(shows_broken(case, numbers, heard, value), wanted)
        self.assertTrue(seen[False] > 1000)

    def test_any_values(self):
        for value in ODD + [Lawful, Paper("breaks", (0, 1), (2, 2)), Denial("lawful", ((0,), (0,)))]:
            for heard in ([1, 1], [0, 0], [None, None]):
                self.assertIs(shows_broken(ONCE, [1, 1], heard, value), False)
                self.assertIs(shows_broken(ONCE, [1, 1], heard, Lawful(value)), False)
                self.assertIs(shows_broken(ONCE, [1, 1], heard, Lawful([value, value])), right(ONCE, [1, 1], heard, Lawful([value, value])))
                self.assertIs(shows_broken(ONCE, [1, 1], heard, Breaks(value, value)), False)
                self.assertIs(shows_broken(ONCE, [1, 1], heard, Breaks([0, 1], value)), False)
        self.assertIs(shows_broken(case=ONCE, numbers=[1, 1], heard=[1, 1], value=Breaks([0, 1], [2, 2])), True)
        # Nothing is open: that is not lawful.
        self.assertIs(shows_broken(ONCE, [1, 1], [1, 1], Lawful([(), ()])), False)

    def test_more_than_eight(self):
        """With more than eight heard places no Breaks is shown; a Lawful may be."""
        self.assertTrue(shows_broken(ONCE, [1] * 8, [1] * 8, Breaks([0, 1], [2, 2])))
        self.assertFalse(shows_broken(ONCE, [1] * 9, [1] * 9, Breaks([0, 1], [2, 2])))
        self.assertTrue(shows_broken(ONCE, [1] * 9, [0] * 9, Lawful([(0,), (0,)])))


class Papers(unittest.TestCase):
    def test_papers(self):
        paper = Breaks(places=[0, 1], falls=[2, [3]])
        self.assertEqual([paper.word, paper.places, paper.falls, paper.parts, bool(paper)], ["breaks", (0, 1), (2, (3,)), ((0, 1), (2, (3,))), True])
        self.assertTrue(isinstance(paper, Paper) and not isinstance(paper, Denial))
        denial = Lawful(stands=[[0]])
        self.assertEqual([denial.word, denial.stands, denial.parts, bool(denial)], ["lawful", ((0,),), (((0,),),), False])
        self.assertTrue(isinstance(denial, Denial) and denial == Lawful(denial.stands) and denial != Lawful([]))


if __name__ == "__main__":
    unittest.main()
