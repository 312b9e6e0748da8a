"""truthwell.plans, truthwell.check_plans."""

import time
import unittest

from truthwell.cases import Case
from truthwell.check_plans import shows_plan
from truthwell.check_plans import shows_untold
from truthwell.depths import find_plan
from truthwell.errors import BadCase
from truthwell.errors import BadNumber
from truthwell.errors import BadPlan
from truthwell.errors import TooMany
from truthwell.pair_plans import Untold
from truthwell.pair_plans import by_groups
from truthwell.papers import Denial
from truthwell.papers import Paper
from truthwell.plans import Plan
from truthwell.plans import stopped
from truthwell.plans import ways
from truthwell.questions import Question
from truthwell.ready import at_most
from truthwell.ready import never_running
from truthwell.ready import one_in
from truthwell.ready import truthful
from truthwell.situations import behind_all
from truthwell.stocks import Stock
from truthwell.wishes import Wish

from bends import bends
from bends import listed
from bends import some_bends
from helpers import BIG
from helpers import Checks
from helpers import Draws
from helpers import ODD
from helpers import is_int
from helpers import made_cases
from plain import answers
from plain import groups_of
from plain import holds_out
from plain import all_met
from plain import numbers_of
from plain import right_plan
from plain import right_untold
from plain import settled

TWO = Case.alike(Stock.splits(2), at_most(1), Wish.each(2))
RUNS = Case.alike(Stock.splits(2), never_running(), Wish.each(2))
PLAN = find_plan(TWO)


def cases_with_plans():
    found = made_cases(231, 90) + made_cases(232, 40, 3, 1, 2, 2)
    found += [Case.alike(Stock.splits(things), rule, Wish.each(things)) for things in (1, 2, 3) for rule in (at_most(1), one_in(3), truthful())]
    return [(case, find_plan(case)) for case in found if find_plan(case) is not None]


def looser(case, draws):
    """A right plan of the case with ranks that are greater than they need be, other questions, more rows."""
    plan = find_plan(case)
    rows = {}
    for situation, rank, number in plan.table:
        rows[situation] = (situation, rank if number is None else rank * 3 + 1, number)
    for situation in all_met(case):
        if settled(case, situation):
            rows[situation] = (situation, 0, None)
        elif situation in rows:
            fine = [number for number in numbers_of(case)
                    if all(new in rows and rows[new][1] < rows[situation][1] for told, new in answers(case, situation, number))]
            rows[situation] = rows[situation][:2] + (draws.pick(fine),)
    return Plan(sorted(rows.values()))


def walk(case, table):
    """All ends, by a plain recursion."""
    asked = {row[0]: row[2] for row in table}

    def on(numbers, hearing, situation):
        if asked[situation] is None:
            return [(numbers, hearing, situation)]
        number = asked[situation]
        return [end for told, new in answers(case, situation, number) for end in on(numbers + (number,), hearing + (told,), new)]

    return on((), (), case.firsts)


def stops(case, table, most):
    asked = {row[0]: row[2] for row in table}
    level, ends = {case.firsts}, set()
    for _ in range(most):
        ends |= {now for now in level if asked[now] is None}
        level = {new for now in level if asked[now] is not None for told, new in answers(case, now, asked[now])}
    return tuple(sorted(level | ends))


class Ways(Checks, unittest.TestCase):
    def test_against_walk(self):
        draws = Draws(233)
        for case, plan in cases_with_plans():
            for table in (plan, looser(case, draws)):
                found = list(ways(case, table))
                self.assertEqual(found, walk(case, table.table))
                self.assertEqual([row[1] for row in found], sorted(row[1] for row in found))
                for numbers, hearing, situation in found:
                    self.assertIsInstance(numbers, tuple)
                    self.assertIsInstance(hearing, tuple)
                    self.assertEqual(behind_all(case, case.firsts, numbers, hearing), situation)

    def test_stopped(self):
        draws = Draws(234)
        for case, plan in cases_with_plans():
            for table in (plan, looser(case, draws)):
                depth = max(len(row[0]) for row in walk(case, table.table))
                for most in list(range(depth + 3)) + [BIG]:
                    self.assertEqual(stopped(case, table, most), stops(case, table.table, min(most, depth + 1)))

    def test_first_settled(self):
        one = Case.alike(Stock.splits(1), truthful(), Wish.each(1))
        self.assertEqual(list(ways(one, find_plan(one))), [((), (), (0,))])
        self.assertEqual([stopped(one, find_plan(one), most) for most in (0, 1, BIG)], [((0,),)] * 3)

    def test_long_ways(self):
        """Each end in a short time, however many there are."""
        begun = time.time()
        case = Case.alike(Stock(2, 1, 2, [Question(0, [0, 1])]), at_most(31), Wish.each(2))
        plan = find_plan(case)
        found = []
        for way in ways(case, plan):
            found.append(way)
            if len(found) == 50:
                break
        self.assertEqual([found[0][1], found[1][1]], [(0,) * 32, (0,) * 31 + (1, 0)])
        self.assertEqual([len(stopped(case, plan, 63)), stopped(case, plan, 2)], [64, ((0, 2), (1, 1), (2, 0))])
        self.assertLess(time.time() - begun, 5)

    def test_errors(self):
        self.odd(lambda value: list(ways(value, None)), lambda value: BadCase("case"))
        self.odd(lambda value: stopped(value, None, None), lambda value: BadCase("case"))
        bad = ODD + [Paper("plan", PLAN.table), Plan(PLAN.table[:-1]), Plan(PLAN.table[::-1]), PLAN.table, find_plan(Case.alike(Stock.splits(2), truthful(), Wish.each(2)))]
        for value in bad:
            for plan in (value, Plan(value)) if not isinstance(value, (Paper, Plan)) and value != PLAN.table else (value,):
                self.raises(BadPlan("plan"), ways, TWO, plan)
                self.raises(BadPlan("plan"), stopped, TWO, plan, None)
        for value in ODD:
            if not (is_int(value) and value >= 0):
                self.raises(BadNumber("most"), stopped, TWO, PLAN, value)
        self.assertEqual(list(ways(case=TWO, plan=PLAN))[0], ((1, 1), (0, 0), (0, -1)))
        self.assertEqual(stopped(case=TWO, plan=PLAN, most=0), ((0, 0),))


class ShowsPlan(Checks, unittest.TestCase):
    def test_right_ones(self):
        draws = Draws(235)
        for case, plan in cases_with_plans():
            depth = [rank for situation, rank, number in plan.table if situation == case.firsts][0]
            for most in (depth, depth + 1, BIG, None):
                self.assertIs(shows_plan(case, Plan(listed(plan.table)), most), True)
            if depth > 0:
                self.assertIs(shows_plan(case, plan, depth - 1), False)
                self.assertIs(shows_plan(case, plan, 0), False)
            other = looser(case, draws)
            self.assertIs(shows_plan(case, other), True)
            self.assertIs(shows_plan(case, other, depth), right_plan(case, other.table, depth))

    def test_bends(self):
        draws = Draws(236)
        for case, plan in cases_with_plans()[::2]:
            for bent in some_bends(draws, plan.table, 60):
                self.assertIs(shows_plan(case, Plan(bent)), right_plan(case, bent), bent)
        for bent in bends(PLAN.table):
            self.assertIs(shows_plan(TWO, Plan(bent), 3), right_plan(TWO, bent, 3), bent)
            self.assertIs(shows_plan(TWO, Plan(bent), 4), right_plan(TWO, bent, 4), bent)

    def test_other_cases(self):
        found = cases_with_plans()
        for (case, plan), (other, more) in zip(found, found[1:]):
            self.assertIs(shows_plan(case, more), right_plan(case, more.table))

    def test_odd(self):
        for value in ODD:
            self.assertIs(shows_plan(TWO, value), False)
            self.assertIs(shows_plan(TWO, Plan(value)), False)
            self.assertIs(shows_plan(TWO, Plan([[value, 0, None]])), False)
            self.assertIs(shows_plan(TWO, Plan([value])), False)
        for value in (PLAN.table, Paper("plan", PLAN.table), Denial("plan", PLAN.table), Untold((0, 1), PLAN.table)):
            self.assertIs(shows_plan(TWO, value), False)
        one = Case.alike(Stock.splits(1), truthful(), Wish.each(1))
        self.assertIs(shows_plan(one, Plan([[[0], 0, None]]), 0), True)
        self.assertIs(shows_plan(one, Plan([[[-1], 0, None], [[0], 0, None]])), True)
        for row in ([[False], 0, None], [[0], False, None], [[0], 1, None], [[0], 0, 0], [[0], 0, False], [[0], 0], [[0], 0, None, None]):
            self.assertIs(shows_plan(one, Plan([row])), False)
        self.assertIs(shows_plan(one, Plan([])), False)
        self.assertIs(shows_plan(one, Plan([[[-1], 0, None]])), False)

    def test_great_ranks(self):
        rows = [(s, 0 if n is None else BIG + r, n) for s, r, n in PLAN.table]
        self.assertIs(shows_plan(TWO, Plan(rows)), True)
        self.assertIs(shows_plan(TWO, Plan(rows), BIG + 3), True)
        self.assertIs(shows_plan(TWO, Plan(rows), BIG + 2), False)

    def test_errors(self):
        self.odd(lambda value: shows_plan(value, None), lambda value: BadCase("case"))
        self.odd(lambda value: shows_plan(value, None, -1), lambda value: BadCase("case"))
        for value in ODD:
            if value is not None and not (is_int(value) and value >= 0):
                self.raises(BadNumber("most"), shows_plan, TWO, PLAN, value)
                self.raises(BadNumber("most"), shows_plan, TWO, None, value)
        self.assertIs(shows_plan(case=TWO, value=PLAN, most=3), True)

    def test_more_than_come_about(self):
        case = Case.alike(Stock(2, 1, 2, [Question(0, [0, 1])]), at_most(63), Wish.each(2))
        self.raises(TooMany("situations", 4096), find_plan, case)
        self.assertIs(shows_plan(case, PLAN), False)


class ShowsUntold(Checks, unittest.TestCase):
    def found(self):
        papers = []
        for case in [RUNS] + made_cases(237, 120, 3, 1, 2, 2):
            for group in groups_of(case):
                begun = tuple(s if x in group else -1 for x, s in enumerate(case.firsts))
                never = holds_out(case, all_met(case, begun))
                if begun in never:
                    papers.append((case, group, tuple(self.ring(case, begun, never))))
        return papers

    def ring(self, case, begun, never):
        """The greatest answers, and all situations in which one can hold out."""
        return [(situation, tuple(max(told for told, new in answers(case, situation, number) if new in never) for number in numbers_of(case)))
                for situation in sorted(never)]

    def test_right_ones_and_bends(self):
        draws = Draws(238)
        found = self.found()
        self.assertGreater(len(found), 20)
        for case, group, ring in found:
            self.assertIs(right_untold(case, group, ring), True)
            self.assertIs(shows_untold(case, Untold(list(group), listed(ring))), True)
            for bent in some_bends(draws, (group, ring), 60):
                if isinstance(bent, tuple) and len(bent) == 2:
                    self.assertIs(shows_untold(case, Untold(*bent)), right_untold(case, *bent), bent)

    def test_odd(self):
        right = by_groups(RUNS)
        for value in ODD:
            for paper in (value, Untold(value, right.ring), Untold(right.group, value), Untold((0, 1), [value]), Untold((0, 1), [[(0, 0), value]])):
                self.assertIs(shows_untold(RUNS, paper), paper == right)
        for value in (Denial("untold", *right.parts), Paper("untold", *right.parts), right.parts, PLAN):
            self.assertIs(shows_untold(RUNS, value), False)
        self.assertIs(shows_untold(RUNS, Untold((False, True), right.ring)), False)
        self.assertIs(shows_untold(TWO, right), False)
        self.odd(lambda value: shows_untold(value, right), lambda value: BadCase("case"))
        self.assertIs(shows_untold(case=RUNS, value=right), True)

    def test_all_bends(self):
        for case in (RUNS, Case.alike(Stock(2, 1, 3, [Question(0, [0, 2])]), never_running(1, 3), Wish.each(2))):
            right = by_groups(case)
            for bent in bends(right.parts):
                if isinstance(bent, tuple) and len(bent) == 2:
                    self.assertIs(shows_untold(case, Untold(*bent)), right_untold(case, *bent), bent)

    def test_no_questions(self):
        empty = Case.alike(Stock(3, 1, 2, []), truthful(), Wish.left(1))
        self.assertEqual(by_groups(empty), Untold((0, 1), [((0, 0, -1), ())]))
        self.assertIs(shows_untold(empty, Untold((1, 2), [((-1, 0, 0), ())])), True)
        self.assertIs(shows_untold(empty, Untold((1, 2), [((-1, 0, 0), (0,))])), False)
        self.assertIs(shows_untold(empty, Untold((1, 2), [((0, 0, 0), ())])), False)


if __name__ == "__main__":
    unittest.main()
