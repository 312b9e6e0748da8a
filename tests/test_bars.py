"""truthwell.bars."""

import time
import unittest

from truthwell.bars import LeastBars
from truthwell.bars import NoBars
from truthwell.bars import bars_of
from truthwell.bars import least_bars
from truthwell.bars import with_bars
from truthwell.books import find_book
from truthwell.cases import Case
from truthwell.depths import find_plan
from truthwell.errors import BadBars
from truthwell.errors import BadCase
from truthwell.errors import BadNumber
from truthwell.errors import BadRule
from truthwell.errors import Dead
from truthwell.errors import NoAnswerer
from truthwell.errors import NoHeap
from truthwell.errors import NoStand
from truthwell.errors import TooMany
from truthwell.papers import Denial
from truthwell.papers import Paper
from truthwell.questions import Question
from truthwell.ready import after_truths
from truthwell.ready import anything
from truthwell.ready import at_most
from truthwell.ready import never_running
from truthwell.ready import one_in
from truthwell.ready import truthful
from truthwell.rings import find_ring
from truthwell.rules import Rule
from truthwell.stocks import Stock
from truthwell.wishes import Wish

from helpers import BIG
from helpers import Checks
from helpers import Draws
from helpers import ODD
from helpers import is_int
from helpers import is_ok
from helpers import made_cases
from helpers import made_rules
from helpers import pasts_to
from plain_sets import all_bars
from plain_sets import barred_rule
from plain_sets import bars_case
from plain_sets import is_enough
from plain_sets import least_and_greatest
from plain_sets import sets_told
from test_depths import chain

RUNS = Case.alike(Stock(2, 1, 2, [Question(0, [0, 1])]), never_running(), Wish.each(2))
ONE = Stock(2, 1, 2, [Question(0, [0, 1])])


def cases():
    """Cases, with some of the bars of their rules, not too many."""
    draws = Draws(471)
    found = [(RUNS, None), (RUNS, [])]
    for rule in (anything(), at_most(1), after_truths(1), one_in(2), truthful()):
        for stock in (ONE, Stock.splits(2), Stock.singles(3)):
            found.append((Case.alike(stock, rule, Wish.each(stock.things)), None if len(all_bars(rule)) < 9 else all_bars(rule)[:5]))
    for case in made_cases(472, 60, 3, 2, 3, 3, 3):
        every = [(s, who, true, told) for s in range(len(case.rule)) for who in range(case.answerers) for true in range(case.heaps) for told in range(case.heaps)]
        found.append((case, [draws.pick(every) for _ in range(draws.below(7))]))
    # Rules of many stands, so that more situations could come about than are let.
    for rule in (one_in(20), after_truths(18)):
        bars = [bar for bar in all_bars(rule) if bar[0] in (0, 1, 18, 19)]
        found += [(Case.alike(Stock.singles(3), rule, Wish.each(3)), [draws.pick(bars) for _ in range(5)]) for _ in range(3)]
    return found


def laid(case, bars):
    """The sets of bars that can be laid."""
    return [some for some in sets_told({tuple(bar) for bar in bars}) if barred_rule(case.rule, some) is not None]


class Rules(Checks, unittest.TestCase):
    def test_bars_of(self):
        for rule in made_rules(473, 40, 2, 3) + [never_running(), at_most(3, 2, 3), truthful()]:
            self.assertEqual(bars_of(rule), tuple(all_bars(rule)))
        self.assertEqual(bars_of(rule=never_running()), ((0, 0, 0, 0), (0, 0, 0, 1), (0, 0, 1, 0), (0, 0, 1, 1), (1, 0, 0, 0), (1, 0, 1, 1)))
        self.odd(bars_of, lambda value: BadRule("rule"))

    def test_with_bars(self):
        draws = Draws(474)
        many = 0
        for rule in made_rules(475, 60, 2, 2):
            every = [(s, who, true, told) for s in range(len(rule)) for who in range(2) for true in range(2) for told in range(2)]
            for _ in range(5):
                bars = [draws.pick(every) for _ in range(draws.below(4))]
                wanted = barred_rule(rule, bars)
                if wanted is None:
                    continue
                many += 1
                before = str(rule)
                found = with_bars(rule, [list(bar) for bar in bars])
                self.assertEqual([found, str(rule)], [wanted, before])
                self.assertEqual(with_bars(rule, tuple(bars) * 2), wanted)
                for past in pasts_to(rule, 2):
                    if is_ok(found, 0, past):
                        self.assertTrue(is_ok(rule, 0, past))
        self.assertGreater(many, 100)
        self.assertEqual(str(with_bars(rule=never_running(), bars=[(0, 0, 0, 1), (1, 0, 0, 1)])), "1 2 | 0 - 1 0 | 0 - - 0")

    def test_errors(self):
        rule = at_most(1, 2)
        self.odd(lambda value: with_bars(value, None), lambda value: BadRule("rule"))
        for value in ODD + [[(0, 0, 0)], [(0, 0, 0, 0, 0)], [(0, 0, 0, True)], [(0, 0, 0, 0), None], [(0, 0, 0, "0")], (0, 0, 0, 0), [[[0, 0, 0, 0]]], {}]:
            if value not in ([], (), [[0, 0, 0, 0]]):
                self.raises(BadBars("bars"), with_bars, rule, value)
        for value in (-1, 2, BIG):
            self.raises(NoStand(value), with_bars, rule, [(0, 0, 0, 1), (value, 9, 9, 9), (7, 0, 0, 0)])
            self.raises(NoAnswerer(value), with_bars, rule, [(0, 0, 0, 1), (1, value, 9, 9)])
            self.raises(NoHeap(value), with_bars, rule, [(0, 0, 0, 1), (1, 1, value, 9), (7, 0, 0, 0)])
            self.raises(NoHeap(value), with_bars, rule, [(0, 0, 0, 1), (1, 1, 1, value)])
        self.raises(NoStand(7), with_bars, rule, [(0, 0, 0, 0), (0, 0, 0, 1), (7, 0, 0, 0)])
        self.raises(Dead(1, 0, 1), with_bars, rule, [(1, 1, 0, 0), (1, 0, 1, 1)])
        self.raises(Dead(0, 1, 0), with_bars, rule, [(1, 0, 1, 1), (0, 1, 0, 0), (0, 1, 0, 1), (0, 1, 1, 0), (0, 1, 1, 1)])
        self.assertEqual(with_bars(rule, []), rule)


class Least(Checks, unittest.TestCase):
    def test_least_and_greatest(self):
        seen = set()
        for case, bars in cases():
            sets = laid(case, all_bars(case.rule) if bars is None else bars)
            for most in (None, 1, 2, 5):
                least, greatest = least_and_greatest(sets, {some: is_enough(bars_case(case, some), most) for some in sets})
                paper = least_bars(case, most, bars)
                self.assertIs(type(paper), LeastBars if least else NoBars)
                if least:
                    self.assertEqual([some for some, plan in paper.enough], least)
                    for some, plan in paper.enough:
                        self.assertEqual(plan, find_plan(bars_case(case, some)))
                self.assertEqual([some for some, shown in paper.short], greatest)
                for some, shown in paper.short:
                    other = bars_case(case, some)
                    self.assertEqual(shown, find_ring(other) if most is None else find_book(other, most))
                seen.add((min(len(least), 3), min(len(greatest), 3), most is None))
        self.assertTrue({(0, 1, True), (0, 2, True), (1, 0, True), (1, 1, True), (3, 2, True), (0, 3, False), (2, 2, False)} <= seen)

    def test_bars_told(self):
        """In any order, twice, as lists, some of them barred already: just the unlike ones count."""
        bars = [(0, 0, 0, 1), (0, 0, 1, 0), (1, 0, 0, 1)]
        found = least_bars(RUNS, None, bars)
        self.assertEqual(least_bars(RUNS, bars=[list(bar) for bar in bars[::-1] * 3]), found)
        self.assertEqual([some for some, plan in found.enough], [((0, 0, 0, 1),), ((0, 0, 1, 0),)])
        self.assertEqual([some for some, ring in found.short], [((1, 0, 0, 1),)])
        self.assertEqual([some for some, ring in least_bars(case=RUNS, most=None, bars=[(1, 0, 0, 0)]).short], [()])
        self.assertEqual(least_bars(RUNS, None, bars_of(RUNS.rule)), least_bars(RUNS))

    def test_errors(self):
        self.odd(lambda value: least_bars(value, False, 0), lambda value: BadCase("case"))
        full = chain([0, 0, 63, 0])
        for value in ODD + [-1, 13]:
            if value is not None and not (is_int(value) and 0 <= value <= 12):
                self.raises(BadNumber("most"), least_bars, full, value, 7)
        for value in ODD + [[(0, 0, 0)], (0, 0, 0, 0)]:
            if value is not None and value not in ([], (), [[0, 0, 0, 0]]):
                self.raises(BadBars("bars"), least_bars, full, None, value)
        for value in (-1, 64, BIG):
            self.raises(NoStand(value), least_bars, full, None, [(0, 0, 0, 0)] * 9 + [(value, 9, 9, 9)])
        self.raises(NoAnswerer(1), least_bars, full, None, [(0, 1, 9, 9)])
        self.raises(NoHeap(2), least_bars, full, None, [(0, 0, 2, 9)])
        self.raises(NoHeap(-1), least_bars, full, None, [(0, 0, 1, -1)])
        self.raises(TooMany("situations", 4096), least_bars, full, 3, [])

    def test_short_time(self):
        """Eight bars, and thousands of situations."""
        begun = time.time()
        case = Case.read("5 2 3 | 1 12000 | 1 11010 | 1 10210 | 0 20111 | 1 02102 ; 2 3 | 2 2 1 0 2 0 2 1 2 0 3 0 0 3 3 2 0 2 | 3 3 0 3 0 0 1 3 1 3 0 3 3 0 1 3 2 0 | "
                         "1 0 2 3 0 2 2 0 3 2 0 2 3 1 1 0 0 2 | 2 1 3 2 1 0 2 2 2 3 1 2 1 2 2 2 0 2 ; 2 0 0 3 1 ; classes 0 0 1 1 1")
        for most in (1, 2):
            found = least_bars(case, most, bars_of(case.rule)[:8])
            self.assertEqual([type(found), len(found.short)], [NoBars, 9])
        self.assertLess(time.time() - begun, 20)

    def test_dead_sets_are_left_out(self):
        """Sets with which nothing would be let are not looked at."""
        case = Case.alike(ONE, truthful(), Wish.left(2))
        self.assertEqual(least_bars(case).enough, (((), find_plan(case)),))
        short = Case.alike(Stock(2, 1, 2, []), anything(), Wish.each(2))
        self.assertEqual([some for some, ring in least_bars(short).short],
                         [((0, 0, 0, 0), (0, 0, 1, 0)), ((0, 0, 0, 0), (0, 0, 1, 1)), ((0, 0, 0, 1), (0, 0, 1, 0)), ((0, 0, 0, 1), (0, 0, 1, 1))])

    def test_too_many_bars(self):
        begun = time.time()
        case = Case.alike(ONE, one_in(3), Wish.each(2))
        self.assertEqual(len(bars_of(case.rule)), 8)
        self.assertTrue(least_bars(case))
        nine = bars_of(at_most(3))[:9]
        more = Case.alike(ONE, at_most(3), Wish.each(2))
        self.raises(TooMany("bars", 8), least_bars, more)
        self.raises(TooMany("bars", 8), least_bars, more, 3, nine)
        self.assertTrue(least_bars(more, None, nine[:8] * 3))
        barred = [(1, 0, 0, 1), (2, 0, 0, 1)]
        self.raises(TooMany("bars", 8), least_bars, case, None, list(bars_of(case.rule)) + barred)
        self.raises(TooMany("bars", 8), least_bars, chain([0, 0, 63, 0]))
        wide = Case.alike(Stock.splits(4), at_most(2), Wish.each(4))
        self.assertTrue(least_bars(wide, 4, bars_of(wide.rule)[:8]))
        self.assertLess(time.time() - begun, 20)


class Papers(unittest.TestCase):
    def test_papers(self):
        paper = LeastBars(enough=[[[[0, 0, 0, 0]], None]], short=[])
        self.assertEqual([paper.word, paper.enough, paper.short, bool(paper)], ["leastbars", ((((0, 0, 0, 0),), None),), (), True])
        self.assertTrue(isinstance(paper, Paper) and not isinstance(paper, Denial) and paper.parts == (paper.enough, paper.short))
        denial = NoBars(short=[[[], 1]])
        self.assertEqual([denial.word, denial.short, denial.parts, bool(denial)], ["nobars", (((), 1),), ((((), 1),),), False])
        self.assertTrue(isinstance(denial, Denial) and denial == NoBars(denial.short) and denial != NoBars([]))


if __name__ == "__main__":
    unittest.main()
