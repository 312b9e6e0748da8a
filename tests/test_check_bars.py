"""truthwell.check_bars, truthwell.growing."""

import time
import unittest

from truthwell.bars import LeastBars
from truthwell.bars import NoBars
from truthwell.bars import bars_of
from truthwell.bars import least_bars
from truthwell.books import Book
from truthwell.cases import Case
from truthwell.check_bars import shows_bars
from truthwell.check_bars import shows_crews
from truthwell.check_bars import shows_tellings
from truthwell.check_books import shows_book
from truthwell.check_books import shows_ring
from truthwell.check_plans import shows_plan
from truthwell.depths import depth_of
from truthwell.depths import find_plan
from truthwell.errors import BadBars
from truthwell.errors import BadCase
from truthwell.errors import BadNumber
from truthwell.errors import NoAnswerer
from truthwell.errors import NoHeap
from truthwell.errors import NoStand
from truthwell.papers import Denial
from truthwell.papers import Paper
from truthwell.plans import Plan
from truthwell.questions import Question
from truthwell.ready import after_truths
from truthwell.ready import at_most
from truthwell.ready import one_in
from truthwell.ready import truthful
from truthwell.rings import Ring
from truthwell.stocks import Stock
from truthwell.untold import Tellings
from truthwell.untold import tellings
from truthwell.whom import Crews
from truthwell.whom import NoCrew
from truthwell.whom import crews
from truthwell.wishes import Wish

from bends import bends
from bends import listed
from helpers import BIG
from helpers import Checks
from helpers import Draws
from helpers import ODD
from helpers import is_int
from plain_sets import alone_case
from plain_sets import bars_case
from plain_sets import crew_case
from plain_sets import sets_told
from test_bars import RUNS
from test_bars import cases as bar_cases
from test_bars import laid
from test_depths import chain
from test_untold import cases as thing_cases
from test_whom import LIARS
from test_whom import cases as crew_cases

OTHERS = [Crews((), ()), NoCrew(()), Tellings((), ()), LeastBars((), ()), NoBars(()), Paper("crews", (), ()), Denial("nocrew", ()), Plan(()), Ring(()), Book(())]


def is_told(value):
    """Whether True and False stand for no integers within a set."""
    return isinstance(value, tuple) and all(is_int(one) or (isinstance(one, tuple) and all(is_int(part) for part in one)) for one in value)


def right_list(sets, pairs, is_right):
    if not isinstance(pairs, tuple) or not all(isinstance(pair, tuple) and len(pair) == 2 for pair in pairs):
        return False
    told = [pair[0] for pair in pairs]
    if not all(is_told(some) and some in sets for some in told):
        return False
    if [sets.index(some) for some in told] != sorted({sets.index(some) for some in told}):
        return False
    if any(set(one) < set(other) for one in told for other in told):
        return False
    return all(is_right(some, paper) for some, paper in pairs)


def right_parts(sets, enough, short, plan_for, shown_for):
    if not right_list(sets, enough, plan_for) or not right_list(sets, short, shown_for):
        return False
    return all(any(set(one) <= set(some) for one, paper in enough) or any(set(some) <= set(one) for one, paper in short) for some in sets)


def right_crews(case, value, most):
    sets = sets_told(range(case.answerers))
    return right_of(sets, value, Crews, NoCrew, lambda some: crew_case(case, some), most)


def right_bars(case, value, most, bars):
    return right_of(laid(case, bars), value, LeastBars, NoBars, lambda some: bars_case(case, some), most)


def right_of(sets, value, yes, no, case_for, most):
    def plan_for(some, paper):
        return shows_plan(case_for(some), paper, most)

    def shown_for(some, paper):
        return shows_ring(case_for(some), paper) if most is None else shows_book(case_for(some), paper, most)

    if type(value) is yes:
        return value.enough != () and right_parts(sets, value.enough, value.short, plan_for, shown_for)
    return type(value) is no and right_parts(sets, (), value.short, plan_for, shown_for)


def right_tellings(case, value):
    sets = sets_told(range(case.things))[1:]
    return type(value) is Tellings and right_parts(sets, value.knots, value.told, lambda some, paper: shows_ring(alone_case(case, some), paper),
                                                   lambda some, paper: shows_plan(alone_case(case, some), paper))


def bent_papers(draws, paper, many):
    """The paper with a pair left out, doubled, moved; with another set or another paper in a pair; of another class."""
    made = type(paper)
    found = []
    for at, pairs in enumerate(paper.parts):
        others = [bent for bent in bends(pairs_of_sets(pairs))] if pairs else [(((), None),), None, 0]
        for bent in others:
            found.append(made(*paper.parts[:at], with_papers(bent, pairs), *paper.parts[at + 1:]))
        for place, pair in enumerate(pairs):
            for wrong in [None, 0, Plan(()), Ring(()), Book(())] + [other[1] for part in paper.parts for other in part]:
                found.append(made(*paper.parts[:at], pairs[:place] + ((pair[0], wrong),) + pairs[place + 1:], *paper.parts[at + 1:]))
    if len(paper.parts) == 2:
        found.append(made(paper.parts[1], paper.parts[0]))
    return found if len(found) <= many else [draws.pick(found) for _ in range(many)]


def pairs_of_sets(pairs):
    """The pairs with numbers in the place of papers, so that they can be bent."""
    return tuple((pair[0], 1000 + number) for number, pair in enumerate(pairs))


def with_papers(bent, pairs):
    if isinstance(bent, tuple):
        return tuple(with_papers(item, pairs) for item in bent)
    if is_int(bent) and 1000 <= bent < 1000 + len(pairs):
        return pairs[bent - 1000][1]
    return bent


class OfCrews(Checks, unittest.TestCase):
    def test_what_is_made(self):
        for case in crew_cases():
            for most in (None, 0, 1, 3, 12):
                paper = crews(case, most)
                self.assertTrue(shows_crews(case, paper, most))
                self.assertTrue(shows_crews(case, type(paper)(*listed(paper.parts)), most=most))
                self.assertFalse(shows_crews(case, LeastBars(*paper.parts) if paper else NoBars(*paper.parts), most))
                for other in (None, 0, 1, 2, 12):
                    self.assertIs(shows_crews(case, paper, other), right_crews(case, paper, other))

    def test_bent(self):
        draws = Draws(481)
        seen = {True: 0, False: 0}
        for case in crew_cases()[::3] + [LIARS]:
            for most in (None, 1, 2):
                for value in bent_papers(draws, crews(case, most), 60):
                    wanted = right_crews(case, value, most)
                    seen[wanted] += 1
                    self.assertIs(shows_crews(case, value, most), wanted)
        self.assertTrue(seen[True] > 40 and seen[False] > 1000)

    def test_not_least(self):
        """Neither need the sets be the least ones or the greatest, if all is known by them; nor the plans of the least depth."""
        found = crews(LIARS)
        both = crew_case(LIARS, (0, 1))
        self.assertFalse(shows_crews(LIARS, Crews([((0, 1), find_plan(both))], found.short)))
        self.assertFalse(shows_crews(LIARS, Crews([], found.short)))
        deep = Plan(sorted((row[0], 7, row[2]) if row[1] else row for row in found.enough[0][1].table))
        self.assertTrue(shows_crews(LIARS, Crews([((0,), deep)], found.short)))
        self.assertFalse(shows_crews(LIARS, Crews([((0,), deep)], crews(LIARS, 6).short), 6))
        self.assertTrue(shows_crews(LIARS, Crews([((0,), deep)], crews(LIARS, 7).short), 7))

    def test_any_values(self):
        for value in ODD + OTHERS:
            for most in (None, 0, 3):
                self.assertIs(shows_crews(LIARS, value, most), False)
                self.assertIs(shows_crews(LIARS, Crews(value, value), most), False)
                self.assertIs(shows_crews(LIARS, NoCrew([value]), most), False)
                self.assertIs(shows_crews(LIARS, NoCrew([[value, value]]), most), False)
                self.assertIs(shows_crews(LIARS, NoCrew([[[value], value]]), most), False)

    def test_errors(self):
        self.odd(lambda value: shows_crews(value, None, False), lambda value: BadCase("case"))
        for value in ODD + [-1, 13]:
            if value is not None and not (is_int(value) and 0 <= value <= 12):
                self.raises(BadNumber("most"), shows_crews, LIARS, None, value)


class OfThings(Checks, unittest.TestCase):
    def test_what_is_made(self):
        for case in thing_cases():
            paper = tellings(case)
            self.assertTrue(shows_tellings(case, paper))
            self.assertTrue(shows_tellings(case, Tellings(*listed(paper.parts))))

    def test_bent(self):
        draws = Draws(482)
        seen = {True: 0, False: 0}
        for case in thing_cases()[::3]:
            for value in bent_papers(draws, tellings(case), 80):
                wanted = right_tellings(case, value)
                seen[wanted] += 1
                self.assertIs(shows_tellings(case, value), wanted)
        self.assertTrue(seen[True] > 20 and seen[False] > 1000)

    def test_eight_things(self):
        begun = time.time()
        eight = Case.alike(Stock.singles(8), truthful(), Wish.each(8))
        self.assertTrue(shows_tellings(eight, tellings(eight)))
        nine = Case.alike(Stock.singles(9), truthful(), Wish.each(9))
        self.assertFalse(shows_tellings(nine, Tellings([(tuple(range(9)), find_plan(nine))], [])))
        self.assertLess(time.time() - begun, 10)

    def test_any_values(self):
        case = Case.alike(Stock.singles(3), after_truths(1), Wish.each(3))
        for value in ODD + OTHERS:
            self.assertIs(shows_tellings(case, value), False)
            self.assertIs(shows_tellings(case, Tellings(value, value)), False)
            self.assertIs(shows_tellings(case, Tellings([[value, value]], [[[value], value]])), False)
        self.odd(lambda value: shows_tellings(value, None), lambda value: BadCase("case"))
        self.assertIs(shows_tellings(chain([0, 0, 63, 0]), Tellings([], [])), False)


class OfBars(Checks, unittest.TestCase):
    def test_what_is_made(self):
        for case, bars in bar_cases():
            for most in (None, 1, 3):
                paper = least_bars(case, most, bars)
                self.assertTrue(shows_bars(case, paper, most, bars))
                self.assertTrue(shows_bars(case, type(paper)(*listed(paper.parts)), most, listed(tuple(bars_of(case.rule) if bars is None else tuple(bars)))))
                told = bars_of(case.rule) if bars is None else bars
                for other in (None, 0, 2):
                    self.assertIs(shows_bars(case, paper, other, bars), right_bars(case, paper, other, told))

    def test_bent(self):
        draws = Draws(483)
        seen = {True: 0, False: 0}
        for case, bars in bar_cases()[::4] + [(RUNS, None)]:
            for most in (None, 2):
                for value in bent_papers(draws, least_bars(case, most, bars), 40):
                    wanted = right_bars(case, value, most, bars_of(case.rule) if bars is None else bars)
                    seen[wanted] += 1
                    self.assertIs(shows_bars(case, value, most, bars), wanted)
        self.assertTrue(seen[True] > 20 and seen[False] > 500)

    def test_other_bars(self):
        """What is shown hangs on the bars that are told."""
        found = least_bars(RUNS)
        self.assertEqual([shows_bars(RUNS, found), shows_bars(RUNS, found, bars=bars_of(RUNS.rule)), shows_bars(RUNS, found, None, bars_of(RUNS.rule)[1:])], [True, True, False])
        few = least_bars(RUNS, None, [(0, 0, 0, 1)])
        self.assertEqual([shows_bars(RUNS, few, None, [(0, 0, 0, 1)]), shows_bars(RUNS, few)], [True, False])

    def test_too_many_bars(self):
        """No paper of bars is shown for more than 8 unlike ones."""
        more = Case.alike(Stock(2, 1, 2, [Question(0, [0, 1])]), at_most(3), Wish.each(2))
        value = LeastBars([((), find_plan(more))], [])
        nine = bars_of(at_most(3))[:9]
        self.assertEqual([shows_bars(more, value), shows_bars(more, value, None, nine), shows_bars(more, value, None, nine[:8] * 2)], [False, False, True])
        case = Case.alike(more.stock, one_in(3), Wish.each(2))
        value = LeastBars([((), find_plan(case))], [])
        self.assertEqual([shows_bars(case, value), shows_bars(case, value, None, bars_of(case.rule) + ((1, 0, 0, 1),))], [True, False])
        self.assertIs(shows_bars(chain([0, 0, 63, 0]), value), False)
        self.assertIsNotNone(depth_of(case))

    def test_any_values(self):
        for value in ODD + OTHERS:
            for most in (None, 2):
                self.assertIs(shows_bars(RUNS, value, most), False)
                self.assertIs(shows_bars(RUNS, LeastBars(value, value), most), False)
                self.assertIs(shows_bars(RUNS, NoBars([[[value], value]]), most), False)
                self.assertIs(shows_bars(RUNS, NoBars([[[[value]], value]]), most), False)

    def test_errors(self):
        self.odd(lambda value: shows_bars(value, None, False, 0), lambda value: BadCase("case"))
        for value in ODD + [-1, 13]:
            if value is not None and not (is_int(value) and 0 <= value <= 12):
                self.raises(BadNumber("most"), shows_bars, RUNS, None, value, 0)
        for value in ODD:
            if value is not None and value not in ([], (), [[0, 0, 0, 0]]):
                self.raises(BadBars("bars"), shows_bars, RUNS, None, None, value)
        for value in (-1, 2, BIG):
            self.raises(NoStand(value), shows_bars, RUNS, None, None, [(value, 9, 9, 9)])
            self.raises(NoHeap(value), shows_bars, RUNS, None, None, [(0, 0, value, 9)])
        self.raises(NoAnswerer(1), shows_bars, RUNS, None, None, [(0, 0, 0, 0), (0, 1, 9, 9)])


if __name__ == "__main__":
    unittest.main()
