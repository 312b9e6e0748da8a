"""truthwell.situations, truthwell.roads."""

import time
import unittest
from itertools import product

from truthwell.cases import Case
from truthwell.errors import BadCase
from truthwell.errors import BadHearing
from truthwell.errors import BadList
from truthwell.errors import BadSituation
from truthwell.errors import NoHeap
from truthwell.errors import NoQuestion
from truthwell.errors import TooMany
from truthwell.questions import Question
from truthwell.ready import at_most
from truthwell.ready import never_running
from truthwell.ready import truthful
from truthwell.roads import hearings
from truthwell.roads import open_by_pasts
from truthwell.rules import Rule
from truthwell.situations import after
from truthwell.situations import behind_all
from truthwell.situations import can_come
from truthwell.situations import come_about
from truthwell.situations import first
from truthwell.situations import is_settled
from truthwell.situations import open_things
from truthwell.stocks import Stock
from truthwell.wishes import Wish

from helpers import BIG
from helpers import Checks
from helpers import ODD
from helpers import end_of
from helpers import made_cases
from plain import all_met
from plain import behind
from plain import settled

RUNS = Case.alike(Stock(2, 1, 2, [Question(0, [0, 1])]), never_running(), Wish.each(2))


class Situations(Checks, unittest.TestCase):
    def test_each_situation(self):
        for case in made_cases(91, 25):
            everything = list(product(range(-1, len(case.rule)), repeat=case.things))
            for situation in everything[::1 + len(everything) // 40]:
                opened = tuple(x for x in range(case.things) if situation[x] >= 0)
                self.assertEqual(open_things(case, situation), opened)
                self.assertEqual(open_things(case, list(situation)), opened)
                self.assertIs(is_settled(case, situation), settled(case, situation))
                for number, question in enumerate(case.stock):
                    coming = []
                    for told in range(case.heaps):
                        new = behind(case, situation, question, told)
                        self.assertEqual(after(case, situation, number, told), new)
                        if max(new) >= 0:
                            coming.append(told)
                    self.assertEqual(can_come(case, list(situation), number), tuple(coming))
                    self.assertEqual(bool(coming), bool(opened))

    def test_come_about(self):
        for case in made_cases(92, 60):
            self.assertEqual(come_about(case), all_met(case))
            self.assertEqual(first(case), case.firsts)

    def test_edges(self):
        one = Case.alike(Stock.splits(1), truthful(), Wish.each(1))
        self.assertEqual([come_about(one), is_settled(one, [0]), is_settled(one, [-1]), first(one)], [((0,),), True, True, (0,)])
        empty = Case.alike(Stock(2, 1, 2, []), truthful(), Wish.each(2))
        self.assertEqual([come_about(empty), is_settled(empty, (0, 0)), behind_all(empty, [0, -1], [], [])], [((0, 0),), False, (0, -1)])
        full = Case.alike(Stock.singles(16), at_most(63), Wish.left(15))
        self.assertIs(is_settled(full, [63] * 16), False)
        self.assertIs(is_settled(full, [63] * 15 + [-1]), True)
        self.assertEqual(after(full, [63] * 16, 3, 1), (-1,) * 3 + (63,) + (-1,) * 12)
        self.assertEqual(after(full, [-1] * 16, 3, 1), (-1,) * 16)
        self.assertEqual(can_come(full, [-1] * 16, 3), ())
        self.assertEqual(after(full, [63, -1] * 8, 3, 1), (-1,) * 16)
        self.assertEqual(open_things(full, [-1] * 16), ())

    def test_never_open_again(self):
        self.assertEqual(behind_all(RUNS, (0, 1), [0, 0, 0], [0, 1, 1]), (-1, -1))
        self.assertEqual(behind_all(RUNS, (-1, -1), [0], [0]), (-1, -1))

    def chain(self, last):
        """Two things that may lie 62 times, with a stand ahead."""
        rows = [list(row) for row in at_most(62).rows] + [last]
        return Case(Stock(2, 1, 2, [Question(0, [0, 1])]), Rule(1, 2, rows), [63, 63], Wish.each(2))

    def test_too_many(self):
        begun = time.time()
        self.assertEqual(len(come_about(Case.alike(RUNS.stock, at_most(62), Wish.each(2)))), 4095)
        self.assertEqual(len(come_about(self.chain([0, 0, 0, 0]))), 4096)
        self.raises(TooMany("situations", 4096), come_about, self.chain([0, 0, 63, 0]))
        self.raises(TooMany("situations", 4096), come_about, Case.alike(RUNS.stock, at_most(63), Wish.each(2)))
        wide = Case.alike(Stock.splits(3), at_most(20), Wish.each(3))
        self.raises(TooMany("situations", 4096), come_about, wide)
        self.assertLess(time.time() - begun, 10)


class Errors(Checks, unittest.TestCase):
    def is_situation(self, value):
        return isinstance(value, (list, tuple)) and len(value) == 2 and all(type(s) is int and -1 <= s <= 1 for s in value)

    def test_case(self):
        for call in (first, come_about, lambda value: open_things(value, None), lambda value: is_settled(value, None),
                     lambda value: can_come(value, None, None), lambda value: after(value, None, None, None),
                     lambda value: behind_all(value, None, None, None), lambda value: open_by_pasts(value, None, None),
                     lambda value: hearings(value, None)):
            self.odd(call, lambda value: BadCase("case"))

    def test_situation(self):
        for call in (open_things, is_settled, lambda case, value: can_come(case, value, None),
                     lambda case, value: after(case, value, None, None), lambda case, value: behind_all(case, value, None, None)):
            self.odd(lambda value: call(RUNS, value), lambda value: BadSituation("situation"), self.is_situation)
            for value in ([0], [0, 0, 0], [0, 2], [-2, 0], [0, True], [None, 0], [0, "0"], "00", {0: 0, 1: 0}, [0, BIG], (0, 0.0), [[0], [0]]):
                self.raises(BadSituation("situation"), call, RUNS, value)

    def test_number_and_told(self):
        for call in (lambda value: can_come(RUNS, [0, 0], value), lambda value: after(RUNS, [0, 0], value, None)):
            self.odd_stand(call, 1, NoQuestion)
        self.odd_stand(lambda value: after(RUNS, [0, 0], 0, value), 2, NoHeap)
        self.assertEqual(after(case=RUNS, situation=[0, 0], number=0, told=1), (1, 0))
        self.assertEqual(can_come(case=RUNS, situation=[0, 0], number=0), (0, 1))
        empty = Case.alike(Stock(2, 1, 2, []), truthful(), Wish.each(2))
        self.raises(NoQuestion(0), can_come, empty, [0, 0], 0)

    def test_numbers_and_hearing(self):
        calls = (lambda numbers, hearing: behind_all(RUNS, [0, 0], numbers, hearing), lambda numbers, hearing: open_by_pasts(RUNS, numbers, hearing))
        for call in calls + (lambda numbers, hearing: hearings(RUNS, numbers),):
            self.odd(lambda value: call(value, None), lambda value: BadList("numbers"), lambda value: isinstance(value, (list, tuple)))
            self.odd_stand(lambda value: call([0, value, 99], None), 1, NoQuestion)
        for call in calls:
            self.odd(lambda value: call([0, 0], value), lambda value: BadHearing("hearing"),
                     lambda value: isinstance(value, (list, tuple)) and len(value) == 2)
            self.odd_stand(lambda value: call([0, 0, 0], [1, value, 99]), 2, NoHeap)
            self.raises(BadHearing("hearing"), call, [0], [])
            self.raises(BadHearing("hearing"), call, [], [9])
            self.raises(NoHeap(2), call, (0, 0), (0, 2))
        self.assertEqual(behind_all(case=RUNS, situation=(0, 0), numbers=[0], hearing=[0]), (0, 1))
        self.assertEqual(open_by_pasts(case=RUNS, numbers=[0], hearing=[0]), (0, 1))
        self.assertEqual(list(hearings(case=RUNS, numbers=(0,))), [(0,), (1,)])

    def test_any_value(self):
        for value in ODD:
            if not self.is_situation(value):
                self.raises(BadSituation("situation"), open_things, case=RUNS, situation=value)


class Roads(Checks, unittest.TestCase):
    def test_against_rows(self):
        for case in made_cases(93, 40):
            most = 3 if case.heaps == 2 else 2
            for length in range(most + 1 if len(case.stock) < 3 else 3):
                for numbers in product(range(len(case.stock)), repeat=length):
                    self.check(case, numbers)

    def check(self, case, numbers):
        lawful = []
        for hearing in product(range(case.heaps), repeat=len(numbers)):
            ends = []
            for thing in range(case.things):
                questions = [case.stock.questions[number] for number in numbers]
                past = [(question.who, question.heaps[thing], told) for question, told in zip(questions, hearing)]
                ends.append(end_of(case.rule, case.firsts[thing], past))
            opened = tuple(thing for thing, end in enumerate(ends) if end is not None)
            self.assertEqual(open_by_pasts(case, numbers, list(hearing)), opened)
            situation = behind_all(case, case.firsts, list(numbers), hearing)
            self.assertEqual(situation, tuple(-1 if end is None else end for end in ends))
            self.assertEqual(open_things(case, situation), opened)
            if opened:
                lawful.append(hearing)
        self.assertEqual(list(hearings(case, list(numbers))), lawful)

    def test_edges(self):
        self.assertEqual([list(hearings(RUNS, [])), open_by_pasts(RUNS, [], []), behind_all(RUNS, [0, 1], [], ())], [[()], (0, 1), (0, 1)])
        idle = Case.alike(Stock(2, 1, 3, [Question(0, [2, 2])]), truthful(1, 3), Wish.each(2))
        self.assertEqual(list(hearings(idle, [0] * 600)), [(2,) * 600])
        self.assertEqual(len(list(hearings(RUNS, [0] * 10))), len({row for row in hearings(RUNS, [0] * 10)}))

    def test_first_ones_of_many(self):
        free = Case.alike(Stock.splits(2), at_most(63), Wish.each(2))
        found = []
        for hearing in hearings(free, [0] * 63):
            found.append(hearing)
            if len(found) == 3:
                break
        self.assertEqual(found, [(0,) * 63, (0,) * 62 + (1,), (0,) * 61 + (1, 0)])

    def test_not_kept(self):
        numbers = [0, 0]
        found = []
        for hearing in hearings(RUNS, numbers):
            numbers.append(7)
            found.append(hearing)
        self.assertEqual(found, [(0, 0), (0, 1), (1, 0), (1, 1)])


if __name__ == "__main__":
    unittest.main()
