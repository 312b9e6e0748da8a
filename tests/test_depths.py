"""truthwell.depths."""

import time
import unittest

from truthwell.cases import Case
from truthwell.depths import depth_of
from truthwell.depths import depths
from truthwell.depths import find_plan
from truthwell.depths import worths
from truthwell.errors import BadCase
from truthwell.errors import BadNumber
from truthwell.errors import BadSituation
from truthwell.errors import TooMany
from truthwell.plans import Plan
from truthwell.questions import Question
from truthwell.ready import after_truths
from truthwell.ready import anything
from truthwell.ready import at_most
from truthwell.ready import never_running
from truthwell.ready import one_in
from truthwell.ready import truthful
from truthwell.rules import Rule
from truthwell.stocks import Stock
from truthwell.wishes import Wish

from helpers import BIG
from helpers import Checks
from helpers import Draws
from helpers import ODD
from helpers import is_int
from helpers import made_cases
from plain import above
from plain import all_depths
from plain import all_met
from plain import all_situations
from plain import answers
from plain import led_by
from plain import numbers_of
from plain import right_plan
from plain import settled

ONE = Stock(2, 1, 2, [Question(0, [0, 1])])
RUNS = Case.alike(ONE, never_running(), Wish.each(2))
FULL = TooMany("situations", 4096)


def cases():
    return made_cases(221, 50) + made_cases(222, 25, 4, 1, 2, 2) + made_cases(223, 25, 3, 2, 2, 3, 4) + made_cases(224, 20, 3, 1, 3)


def ready_cases():
    """Cases of the ready rules, most of them with a depth."""
    found = []
    for rule in (truthful(), at_most(1), at_most(2), one_in(3), one_in(4), never_running(), after_truths(1), anything()):
        for things in (1, 2, 3):
            for stock in (Stock.splits(things), Stock.singles(things)):
                found.append(Case.alike(stock, rule, Wish.each(things)))
        found.append(Case(Stock.splits(3), rule, [len(rule) - 1, 0, 0], Wish.left(2)))
        found.append(Case(Stock.splits(3), rule, [0, len(rule) - 1, 0], Wish.of([0, 1, 1])))
    return found


def chain(last):
    """Two things that may lie 62 times, with a stand ahead: 4,096 situations, or one more."""
    rows = [list(row) for row in at_most(62).rows] + [last]
    return Case(ONE, Rule(1, 2, rows), [63, 63], Wish.each(2))


def worth_by(case, known, situation, number):
    """1 more than the greatest least depth behind the answers that can come."""
    found = [known[new] for told, new in answers(case, situation, number)]
    return None if None in found else 1 + max(found)


class Depths(Checks, unittest.TestCase):
    def test_against_recursion(self):
        seen = set()
        for case in cases() + ready_cases():
            known = all_depths(case)
            self.assertEqual(depths(case), tuple(known.items()))
            self.assertEqual(depth_of(case), known[case.firsts])
            seen.add(known[case.firsts])
            for situation in list(known)[:5]:
                self.assertEqual(depth_of(case, list(situation)), known[situation])
        self.assertTrue({None, 0, 1, 2, 3, 5, 6} <= seen)

    def test_situations_that_do_not_come_about(self):
        draws = Draws(225)
        for case in made_cases(226, 25, 3):
            for _ in range(6):
                situation = draws.pick(all_situations(case))
                known = all_depths(case, situation)
                self.assertEqual(depth_of(case, situation), known[situation])
                wanted = () if settled(case, situation) else tuple(worth_by(case, known, situation, number) for number in numbers_of(case))
                self.assertEqual(worths(case, list(situation)), wanted)

    def test_worths(self):
        for case in cases() + ready_cases()[::2]:
            known = all_depths(case)
            for situation in list(known)[:6]:
                wanted = () if settled(case, situation) else tuple(worth_by(case, known, situation, number) for number in numbers_of(case))
                self.assertEqual(worths(case, situation), wanted)
                if wanted:
                    counted = [worth for worth in wanted if worth is not None]
                    self.assertEqual(known[situation], min(counted) if counted else None)
            self.assertEqual(worths(case), worths(case, case.firsts))

    def test_facts(self):
        for case in cases():
            known = all_depths(case)
            depth = known[case.firsts]
            if depth is not None:
                found = [depth_of(case, situation) for situation in known]
                self.assertTrue(set(range(depth + 1)) <= set(found))
                self.assertLess(depth, len(known))

    def test_edges(self):
        empty = Case.alike(Stock(2, 1, 2, []), truthful(), Wish.each(2))
        self.assertEqual([depth_of(empty), depths(empty), worths(empty), find_plan(empty)], [None, (((0, 0), None),), (), None])
        done = Case.alike(Stock(2, 1, 2, []), truthful(), Wish.left(2))
        self.assertEqual([depth_of(done), depths(done), worths(done), find_plan(done, 0).table], [0, (((0, 0), 0),), (), (((0, 0), 0, None),)])
        one = Case.alike(Stock.singles(1), at_most(1), Wish.each(1))
        self.assertEqual([depth_of(one), worths(one), find_plan(one).table], [0, (), (((0,), 0, None),)])
        great = Case.alike(ONE, anything(), Wish.left(16))
        self.assertEqual([depth_of(great), len(depths(great)), find_plan(great, BIG).table], [0, 1, (((0, 0), 0, None),)])
        self.assertEqual([depth_of(RUNS, [-1, -1]), worths(RUNS, (-1, -1)), depth_of(RUNS, (0, -1))], [0, (), 0])
        self.assertEqual([depth_of(RUNS, (1, 1)), worths(RUNS, (1, 1)), worths(RUNS, (0, 1))], [1, (1,), (None,)])
        self.assertEqual(depth_of(case=RUNS, situation=None), None)

    def test_errors(self):
        for call in (depth_of, depths, worths, find_plan, lambda value: depth_of(value, 7), lambda value: worths(value, 7),
                     lambda value: find_plan(value, -1)):
            self.odd(call, lambda value: BadCase("case"))
        for call in (depth_of, worths):
            for value in ODD + [[0], [0, 0, 0], [0, 2], [-2, 0], [0, True], "00"]:
                if value is not None and value not in ([0, 0], (0, 1)):
                    self.raises(BadSituation("situation"), call, RUNS, value)
        for value in ODD:
            if value is not None and not (is_int(value) and value >= 0):
                self.raises(BadNumber("most"), find_plan, RUNS, value)

    def test_too_many(self):
        begun = time.time()
        full, more = chain([0, 0, 0, 0]), chain([0, 0, 63, 0])
        self.assertEqual(len(depths(full)), 4096)
        self.assertEqual([depth_of(full), find_plan(full, 125), worths(full)], [126, None, (126,)])
        self.assertEqual(len(find_plan(full).table), 4096)
        for call in (depth_of, depths, worths, find_plan, lambda case: depth_of(case, (63, 63)), lambda case: worths(case, (63, 63)),
                     lambda case: find_plan(case, 0)):
            self.raises(FULL, call, more)
        self.assertEqual([depth_of(more, (0, 0)), worths(more, (0, 0)), depth_of(more, (-1, 63))], [125, (125,), 0])
        self.raises(BadSituation("situation"), depth_of, more, [0, 64])
        self.raises(BadNumber("most"), find_plan, more, True)
        self.assertLess(time.time() - begun, 10)


class FindPlan(Checks, unittest.TestCase):
    def test_rows(self):
        for case in cases() + ready_cases():
            known = all_depths(case)
            depth = known[case.firsts]
            plan = find_plan(case)
            if depth is None:
                self.assertIsNone(plan)
                self.assertIsNone(find_plan(case, 10 ** 9))
                continue
            self.assertIsInstance(plan, Plan)
            self.assertTrue(right_plan(case, plan.table, depth))
            self.assertEqual([row[0] for row in plan.table], led_by(case, plan.table))
            for situation, rank, number in plan.table:
                self.assertEqual(rank, known[situation])
                if number is not None:
                    found = [worth_by(case, known, situation, other) for other in numbers_of(case)]
                    self.assertEqual(number, found.index(rank))
            for most in range(depth + 2):
                self.assertEqual(find_plan(case, most), plan if most >= depth else None)
            self.assertEqual(find_plan(case=case, most=None), plan)

    def test_short_time(self):
        begun = time.time()
        for case in made_cases(228, 12, 5, 1, 2, 5, 5):
            try:
                depths(case)
            except TooMany:
                pass
        self.assertEqual(depth_of(Case.alike(Stock.splits(3), one_in(5), Wish.each(3))), 5)
        self.assertTrue(above(depth_of(Case.alike(Stock.splits(4), at_most(2), Wish.each(4))), 5))
        self.assertLess(time.time() - begun, 10)

    def test_least_depths_do_not_grow(self):
        """Less that can be told, fewer things, more questions, a coarser wish never ask for more."""
        for case in made_cases(229, 25, 3):
            depth = depth_of(case)
            met = all_met(case)
            self.assertEqual(len(met), len(depths(case)))
            if depth is not None:
                for at in range(len(case.stock)):
                    stock = Stock(case.things, case.answerers, case.heaps, [q for k, q in enumerate(case.stock.questions) if k != at])
                    less = depth_of(Case(stock, case.rule, case.firsts, case.wish))
                    self.assertTrue(less is None or less >= depth)


if __name__ == "__main__":
    unittest.main()
