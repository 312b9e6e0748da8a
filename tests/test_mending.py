"""truthwell.mending, truthwell.spelled."""

import time
import unittest

from truthwell.cases import Case
from truthwell.errors import BadCase
from truthwell.errors import BadHearing
from truthwell.errors import BadList
from truthwell.errors import Barred
from truthwell.errors import NoHeap
from truthwell.errors import NoQuestion
from truthwell.errors import NoThing
from truthwell.mending import class_told
from truthwell.mending import lies_in
from truthwell.mending import lies_told
from truthwell.mending import mended
from truthwell.questions import Question
from truthwell.ready import anything
from truthwell.ready import at_most
from truthwell.ready import never_running
from truthwell.ready import truthful
from truthwell.roads import open_by_pasts
from truthwell.spelled import parted_at
from truthwell.spelled import spellings
from truthwell.stocks import Stock
from truthwell.wishes import Wish

from helpers import BIG
from helpers import Checks
from helpers import Draws
from helpers import ODD
from helpers import made_cases
from plain import all_hearings
from plain import groups_of
from plain import open_by

PAIR = Case.alike(Stock.singles(2), at_most(1), Wish.each(2))
NUMBER = Case.alike(Stock.singles(2), at_most(1), Wish.left(1))


def lists_of(case, seed):
    """Some lists of questions of the case, and the empty one."""
    draws = Draws(seed)
    found = [[]]
    if len(case.stock):
        found += [[draws.below(len(case.stock)) for _ in range(length)] for length in (1, 2, 3)]
    return found


def told_lies(case, numbers, hearing, thing):
    """By the words of the document."""
    return tuple(place for place, told in enumerate(hearing) if told != case.stock.questions[numbers[place]].heaps[thing])


class Mending(Checks, unittest.TestCase):
    def test_by_pasts(self):
        barred = 0
        for case in made_cases(311, 60) + made_cases(312, 25, 3, 1, 3):
            for numbers in lists_of(case, 313):
                for hearing in all_hearings(case, numbers):
                    left = open_by(case, numbers, hearing)
                    self.assertEqual(mended(case, numbers, hearing), left)
                    self.assertEqual(mended(case, tuple(numbers), list(hearing)), open_by_pasts(case, numbers, hearing))
                    for thing in range(case.things):
                        wanted = told_lies(case, numbers, hearing, thing) if thing in left else None
                        self.assertEqual(lies_in(case, numbers, hearing, thing), wanted)
                    if case.wish.classes is not None:
                        classes = {case.wish.classes[thing] for thing in left}
                        self.assertEqual(class_told(case, numbers, hearing), min(classes) if len(classes) == 1 else None)
                    else:
                        self.raises(BadCase("wish"), class_told, case, numbers, hearing)
                    if left:
                        rows = [told_lies(case, numbers, hearing, thing) for thing in left]
                        counts = [sum(place in row for row in rows) for place in range(len(numbers))]
                        wanted = tuple("all" if count == len(left) else "some" if count else "none" for count in counts)
                        self.assertEqual(lies_told(case, list(numbers), hearing), wanted)
                    else:
                        place = next(k for k in range(len(numbers)) if not open_by(case, numbers[:k + 1], hearing[:k + 1]))
                        self.raises(Barred(place), lies_told, case, numbers, hearing)
                        barred += 1
        self.assertGreater(barred, 50)

    def test_edges(self):
        self.assertEqual([mended(PAIR, [], []), lies_told(PAIR, (), ()), lies_in(PAIR, [], [], 1), class_told(PAIR, [], [])], [(0, 1), (), (), None])
        one = Case.alike(Stock.singles(2), at_most(1), Wish.of([5, 5]))
        self.assertEqual(class_told(one, [], []), 0)
        self.assertEqual(class_told(PAIR, [0, 1, 0], [0, 1, 0]), 1)
        self.assertEqual(lies_told(PAIR, [0, 0, 1], [1, 0, 0]), ("none", "all", "none"))
        truth = Case.alike(Stock.singles(2), truthful(), Wish.each(2))
        self.raises(Barred(1), lies_told, truth, [0, 1, 0], [1, 1, 0])
        self.assertEqual([mended(truth, [0, 1, 0], [1, 1, 0]), class_told(truth, [0, 1, 0], [1, 1, 0]), lies_in(truth, [0, 1], [1, 1], 0)], [(), None, None])
        runs = Case.alike(Stock(2, 1, 2, [Question(0, [0, 0])]), never_running(), Wish.each(2))
        self.raises(Barred(3), lies_told, runs, [0] * 6, [1, 0, 1, 1, 1, 0])

    def test_long(self):
        begun = time.time()
        wide = Case.alike(Stock.singles(16), anything(), Wish.each(16))
        self.assertEqual(len(lies_told(wide, list(range(16)) * 100, [0] * 1600)), 1600)
        self.assertEqual(len(lies_in(wide, list(range(16)) * 100, [1] * 1600, 3)), 1500)
        self.assertLess(time.time() - begun, 5)

    def test_errors(self):
        calls = (mended, class_told, lambda case, numbers, hearing: lies_in(case, numbers, hearing, None), lies_told)
        for call in calls:
            self.odd(lambda value: call(value, None, None), lambda value: BadCase("case"))
            for case in (PAIR, NUMBER):
                self.odd(lambda value: call(case, value, None), lambda value: BadList("numbers"), lambda value: isinstance(value, (list, tuple)))
                self.odd_stand(lambda value: call(case, [0, value, 9], None), 2, NoQuestion)
                self.odd(lambda value: call(case, [0, 1], value), lambda value: BadHearing("hearing"),
                         lambda value: isinstance(value, (list, tuple)) and len(value) == 2)
                self.odd_stand(lambda value: call(case, [0, 1, 1], [1, value, 7]), 2, NoHeap)
        self.odd_stand(lambda value: lies_in(PAIR, [0, 0], [1, 1], value), 2, NoThing)
        for value in (2, -1, True, BIG):
            self.raises(NoThing(value), lies_in, PAIR, [0, 0, 1], [1, 1, 1], value)
        self.raises(BadCase("wish"), class_told, NUMBER, [0], [1])
        self.assertEqual([mended(case=PAIR, numbers=[0], hearing=[1]), class_told(case=PAIR, numbers=[0], hearing=[1]), lies_told(case=PAIR, numbers=[0], hearing=[1]),
                          lies_in(case=PAIR, numbers=[0], hearing=[1], thing=1)], [(0, 1), None, ("some",), (0,)])


class Spelled(Checks, unittest.TestCase):
    def test_by_words(self):
        for case in made_cases(314, 60) + made_cases(315, 25, 5, 2, 3):
            for numbers in lists_of(case, 316):
                wanted = tuple(tuple(case.stock.questions[number].heaps[thing] for number in numbers) for thing in range(case.things))
                self.assertEqual(spellings(case, numbers), wanted)
                if case.wish.classes is None and case.wish.most > 1:
                    self.raises(BadCase("wish"), parted_at, case, numbers)
                    continue
                found = tuple((group, sum(case.stock.questions[number].parts(*group) for number in numbers)) for group in groups_of(case))
                self.assertEqual(parted_at(case, tuple(numbers)), found)

    def test_edges(self):
        self.assertEqual([spellings(PAIR, []), parted_at(PAIR, [])], [((), ()), (((0, 1), 0),)])
        self.assertEqual([parted_at(NUMBER, [0]), spellings(Case.alike(Stock.singles(2), truthful(), Wish.left(9)), [1])], [(((0, 1), 1),), ((0,), (1,))])
        alike = Case.alike(Stock.singles(2), truthful(), Wish.of([3, 3]))
        self.assertEqual(parted_at(alike, [0, 1]), ())
        sixteen = Case.alike(Stock.singles(16), truthful(), Wish.each(16))
        self.assertEqual(len(parted_at(sixteen, list(range(16)) * 20)), 120)

    def test_errors(self):
        two = Case.alike(Stock.singles(2), at_most(1), Wish.left(2))
        for call in (spellings, parted_at):
            self.odd(lambda value: call(value, None), lambda value: BadCase("case"))
            self.odd(lambda value: call(two, value), lambda value: BadList("numbers"), lambda value: isinstance(value, (list, tuple)))
            self.odd_stand(lambda value: call(two, [0, value, 9]), 2, NoQuestion)
        self.raises(BadCase("wish"), parted_at, two, [0])
        self.assertEqual([spellings(case=PAIR, numbers=[1]), parted_at(case=PAIR, numbers=[1])], [((0,), (1,)), (((0, 1), 1),)])


if __name__ == "__main__":
    unittest.main()
