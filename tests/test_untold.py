"""truthwell.untold."""

import time
import unittest

from truthwell.cases import Case
from truthwell.depths import depth_of
from truthwell.depths import find_plan
from truthwell.errors import BadCase
from truthwell.errors import NotFading
from truthwell.errors import TooMany
from truthwell.fading import fading
from truthwell.joined import either
from truthwell.papers import Denial
from truthwell.papers import Paper
from truthwell.questions import Question
from truthwell.ready import after_truths
from truthwell.ready import always_false
from truthwell.ready import at_most
from truthwell.ready import never_running
from truthwell.ready import one_in
from truthwell.ready import truthful
from truthwell.rings import find_ring
from truthwell.rules import Rule
from truthwell.stocks import Stock
from truthwell.untold import Tellings
from truthwell.untold import finest_told
from truthwell.untold import tellings
from truthwell.wishes import Wish

from helpers import Checks
from helpers import Draws
from helpers import made_cases
from plain_sets import alone_case
from plain_sets import least_and_greatest
from plain_sets import sets_told
from test_depths import chain
from test_depths import ready_cases


def cases():
    """Cases with knots of two things and of more."""
    found = made_cases(461, 60, 4, 2, 3, 3, 3) + ready_cases()[::4]
    for many in (1, 2, 3):
        found += [Case.alike(Stock.singles(things), after_truths(many), Wish.each(things)) for things in (2, 3, 4, 5)]
    found.append(Case.alike(Stock.singles(4), after_truths(2), Wish.left(2)))
    return found


def untold(case, things):
    return depth_of(alone_case(case, things)) is None


class AllTellings(Checks, unittest.TestCase):
    def test_least_and_greatest(self):
        seen = set()
        for case in cases():
            sets = sets_told(range(case.things))[1:]
            least, greatest = least_and_greatest(sets, {things: untold(case, things) for things in sets})
            paper = tellings(case)
            self.assertIs(type(paper), Tellings)
            self.assertEqual([things for things, plan in paper.told], greatest)
            self.assertEqual([things for things, ring in paper.knots], least)
            for things, plan in paper.told:
                self.assertEqual(plan, find_plan(alone_case(case, things)))
            for things, ring in paper.knots:
                self.assertEqual(ring, find_ring(alone_case(case, things)))
            seen |= {len(things) for things in least} | {len(things) + 10 for things in greatest}
        self.assertTrue({2, 3, 4, 5, 11, 12, 13, 14} <= seen)

    def test_facts(self):
        """A case is never exactly if it has a knot; where it fades each knot is a group."""
        larger = 0
        for case in cases():
            knots = [things for things, ring in tellings(case).knots]
            self.assertIs(depth_of(case) is None, bool(knots))
            groups = case.wish.groups(case.things)
            if fading(case):
                self.assertTrue(all(knot in groups for knot in knots))
            larger += any(knot not in groups for knot in knots)
        self.assertGreater(larger, 2)

    def test_edges(self):
        one = Case.alike(Stock.singles(1), at_most(1), Wish.each(1))
        self.assertEqual(tellings(case=one), Tellings([((0,), find_plan(one))], []))
        empty = Case.alike(Stock(2, 1, 2, []), truthful(), Wish.each(2))
        self.assertEqual([[things for things, paper in part] for part in tellings(empty).parts], [[(0,), (1,)], [(0, 1)]])

    def test_errors(self):
        self.odd(tellings, lambda value: BadCase("case"))
        begun = time.time()
        for things in (9, 16):
            self.raises(TooMany("things", 8), tellings, Case.alike(Stock.singles(things), truthful(), Wish.left(things)))
        eight = Case.alike(Stock.singles(8), truthful(), Wish.each(8))
        self.assertEqual([[things for things, paper in part] for part in tellings(eight).parts], [[tuple(range(8))], []])
        self.assertLess(time.time() - begun, 10)
        self.raises(TooMany("situations", 4096), tellings, chain([0, 0, 63, 0]))
        self.assertEqual(len(tellings(chain([0, 0, 0, 0])).told[0][1].table), 4096)

    def test_too_many_entries(self):
        rows = [[begin + (s + 1) % size] * 4 for begin, size in ((0, 17), (17, 19)) for s in range(size)]
        case = Case(Stock(2, 1, 2, [Question(0, [0, 0])]), Rule(1, 2, rows), [0, 17], Wish.each(2))
        self.raises(TooMany("layer", 300), tellings, case)
        # Plans come first, set by set: the two things 1 and 2 have too many situations, the knot 0, 1 too large a ring.
        rows = [[begin + (s + 1) % size] * 4 for begin, size in ((0, 17), (17, 19)) for s in range(size)]
        self.raises(TooMany("layer", 300), tellings, Case(Stock(3, 1, 2, [Question(0, [0, 0, 0])]), Rule(1, 2, rows), [0, 17, 17], Wish.each(3)))


class Finest(Checks, unittest.TestCase):
    def fading_cases(self):
        return [case for case in made_cases(462, 120, 4, 2, 3, 3, 3) + ready_cases() if fading(case)]

    def test_by_chains(self):
        seen = set()
        for case in self.fading_cases():
            near = {(x, y) for x in range(case.things) for y in range(case.things)
                    if x != y and depth_of(alone_case(case, sorted([x, y]), Wish.each(2))) is None}
            classes = list(range(case.things))
            for _ in range(case.things):
                for x, y in near:
                    classes[x] = classes[y] = min(classes[x], classes[y])
            self.assertEqual(finest_told(case), Wish.of(classes))
            seen.add(finest_told(case).classes)
        self.assertTrue({(0, 1), (0, 0), (0, 1, 2), (0, 0, 0), (0, 0, 1)} <= seen)

    def test_facts(self):
        """For these classes the least depth is a number; any others for which it is are put together of these."""
        draws = Draws(463)
        for case in self.fading_cases():
            wish = finest_told(case)
            told = Case(case.stock, case.rule, case.firsts, wish)
            self.assertIsNotNone(depth_of(told))
            for _ in range(4):
                other = Wish.of([draws.below(3) for _ in range(case.things)])
                if depth_of(Case(case.stock, case.rule, case.firsts, other)) is not None:
                    self.assertTrue(all(other.classes[x] == other.classes[y] for x in range(case.things) for y in range(case.things)
                                        if wish.classes[x] == wish.classes[y]))

    def test_whatever_the_wish(self):
        some = Stock(3, 1, 2, [Question(0, [0, 1, 1])])
        for wish in (Wish.each(3), Wish.left(1), Wish.left(16), Wish.of([0, 0, 0]), Wish.of([0, 0, 1])):
            self.assertEqual(finest_told(Case.alike(some, one_in(3), wish)).classes, (0, 1, 1))

    def test_many_things(self):
        begun = time.time()
        halves = [Question(0, [x >> k & 1 for x in range(16)]) for k in range(4)]
        self.assertEqual(finest_told(Case.alike(Stock(16, 1, 2, halves), truthful(), Wish.left(16))), Wish.each(16))
        self.assertEqual(finest_told(case=Case.alike(Stock(16, 1, 2, halves[:2]), at_most(1), Wish.each(16))), Wish.of([x % 4 for x in range(16)]))
        self.assertLess(time.time() - begun, 10)

    def test_errors(self):
        self.odd(finest_told, lambda value: BadCase("case"))
        runs = Case(Stock(3, 1, 2, []), never_running(), [0, 1, 1], Wish.each(3))
        self.raises(NotFading(1), finest_told, runs)
        self.raises(NotFading(0), finest_told, Case.alike(Stock(3, 1, 2, []), after_truths(1), Wish.each(3)))
        mixed = Case.alike(Stock.splits(2), either(truthful(), always_false()), Wish.each(2))
        self.assertEqual(finest_told(mixed).classes, (0, 1) if depth_of(mixed) is not None else (0, 0))

    def test_too_many(self):
        """Two things alone have 64 * 64 situations in which both are open, and some more."""
        begun = time.time()
        self.assertEqual(finest_told(Case.alike(Stock.singles(2), at_most(62), Wish.each(2))).classes, (0, 1))
        self.raises(TooMany("situations", 4096), finest_told, Case.alike(Stock.singles(2), at_most(63), Wish.each(2)))
        wide = Stock(3, 1, 2, [Question(0, [0, 0, 1])])
        self.raises(TooMany("situations", 4096), finest_told, Case.alike(wide, at_most(63), Wish.each(3)))
        alike = Stock(3, 1, 2, [Question(0, [0, 0, 0])])
        self.assertEqual(finest_told(Case.alike(alike, at_most(63), Wish.each(3))).classes, (0, 0, 0))
        self.assertLess(time.time() - begun, 10)


class Papers(unittest.TestCase):
    def test_papers(self):
        paper = Tellings(told=[[[0], None]], knots=[])
        self.assertEqual([paper.word, paper.told, paper.knots, paper.parts, bool(paper)], ["tellings", (((0,), None),), (), ((((0,), None),), ()), True])
        self.assertTrue(isinstance(paper, Paper) and not isinstance(paper, Denial) and paper == Tellings(*paper.parts) and paper != Tellings([], []))


if __name__ == "__main__":
    unittest.main()
