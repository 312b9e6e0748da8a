"""truthwell.shadows, truthwell.shadow_sets."""

import time
import unittest
from itertools import product

from truthwell.cases import Case
from truthwell.errors import BadCase
from truthwell.errors import BadList
from truthwell.errors import BadSituation
from truthwell.errors import NoQuestion
from truthwell.errors import TooMany
from truthwell.questions import Question
from truthwell.ready import anything
from truthwell.ready import at_most
from truthwell.ready import never_running
from truthwell.ready import one_in
from truthwell.ready import truthful
from truthwell.rules import Rule
from truthwell.shadows import first_shadow
from truthwell.shadows import is_bare
from truthwell.shadows import is_within_shadow
from truthwell.shadows import shadow_after
from truthwell.shadows import shadow_behind
from truthwell.stocks import Stock
from truthwell.wishes import Wish

from bends import bends
from bends import listed
from bends import some_bends
from helpers import Checks
from helpers import Draws
from helpers import ODD
from helpers import made_cases
from plain import bare
from plain import first_shadow_of
from plain import groups_of
from plain import inside
from plain import right_shadow
from plain import shadow_of
from plain import shadow_on

PAIR = Case.alike(Stock.singles(2), at_most(1), Wish.each(2))
MANY = TooMany("standings", 4096)


def made_shadow(draws, case):
    """Some standings of each group, which may come behind no list."""
    everything = list(range(len(case.rule)))
    return tuple(tuple(sorted(row for row in product(everything, repeat=len(group)) if draws.below(3) == 0)) for group in groups_of(case))


def stay_case(things, stands, wish, extra=0):
    """Each answer leaves each thing at its stand, whatever is told; so many stands, and some more."""
    return Case.alike(Stock(things, 1, 2, [Question(0, [0] * things)]), Rule(1, 2, [[s] * 4 for s in range(stands + extra)]), wish)


class Shadows(Checks, unittest.TestCase):
    def test_hearing_by_hearing(self):
        for case in made_cases(281, 50) + made_cases(282, 20, 3, 1, 3):
            self.assertEqual(first_shadow(case), first_shadow_of(case))
            self.assertEqual(shadow_behind(case, []), first_shadow_of(case))
            draws = Draws(283)
            if len(case.stock):
                for length in (1, 2, 3, 4 if case.heaps == 2 else 3):
                    numbers = [draws.below(len(case.stock)) for _ in range(length)]
                    self.assertEqual(shadow_behind(case, numbers), shadow_of(case, numbers))

    def test_question_by_question(self):
        draws = Draws(284)
        for case in made_cases(285, 60):
            for number in range(len(case.stock)):
                shadow = made_shadow(draws, case)
                self.assertEqual(shadow_after(case, shadow, number), shadow_on(case, shadow, number))
                self.assertEqual(shadow_after(case, listed(shadow), number), shadow_on(case, shadow, number))
                self.assertEqual(shadow_after(case, shadow_behind(case, [number]), number), shadow_behind(case, (number, number)))

    def test_bare_and_within(self):
        draws = Draws(286)
        for case in made_cases(287, 40):
            one, other = made_shadow(draws, case), made_shadow(draws, case)
            smaller = tuple(tuple(row for row in rows if draws.below(2)) for rows in one)
            none = tuple(() for rows in one)
            for left, right in ((one, other), (other, one), (smaller, one), (one, smaller), (none, one), (one, none), (one, one), (none, none)):
                self.assertIs(is_within_shadow(left, right), inside(left, right))
                self.assertIs(is_within_shadow(listed(left), right), inside(left, right))
                self.assertIs(is_within_shadow(left, listed(right)), inside(left, right))
            for shadow in (one, other, smaller, none):
                self.assertIs(is_bare(shadow), bare(shadow))
                self.assertIs(is_bare(listed(shadow)), bare(shadow))
        self.assertIs(is_bare(()), True)
        self.assertIs(is_bare(shadow=[[], [[0, 0]]]), False)
        self.assertIs(is_within_shadow(one=[], other=()), True)

    def test_facts(self):
        """What bares a shadow bares each one that lies within it."""
        draws = Draws(288)
        for case in made_cases(289, 40):
            shadow = made_shadow(draws, case)
            smaller = tuple(tuple(row for row in rows if draws.below(2)) for rows in shadow)
            for number in range(len(case.stock)):
                self.assertTrue(is_within_shadow(shadow_after(case, smaller, number), shadow_after(case, shadow, number)))

    def test_not_changed(self):
        shadow = [[[0, 1], [1, 0]]]
        shadow_after(PAIR, shadow, 0)
        self.assertEqual(shadow, [[[0, 1], [1, 0]]])

    def test_edges(self):
        none = Case.alike(Stock.singles(2), at_most(1), Wish.left(2))
        self.assertEqual([first_shadow(none), shadow_behind(none, [0, 1]), shadow_after(none, [], 1)], [(), (), ()])
        self.assertEqual(shadow_after(case=PAIR, shadow=[[]], number=1), ((),))
        self.assertEqual([first_shadow(case=PAIR), shadow_behind(case=PAIR, numbers=(0,))], [(((0, 0),),), (((0, 1), (1, 0)),)])

    def test_errors(self):
        for call in (first_shadow, lambda value: shadow_after(value, None, None), lambda value: shadow_behind(value, None)):
            self.odd(call, lambda value: BadCase("case"))
        fine = ([[[0, 0]]], [[]], ([],), [()])
        for value in ODD:
            if value not in ([[]], [[0, 0]][:0]) and not (isinstance(value, (list, tuple)) and len(value) == 1 and value[0] in ([], ())):
                self.raises(BadSituation("shadow"), shadow_after, PAIR, value, None)
        for value in fine:
            self.raises(NoQuestion(2), shadow_after, PAIR, value, 2)
        self.odd_stand(lambda value: shadow_after(PAIR, [[]], value), 2, NoQuestion)
        self.odd(lambda value: shadow_behind(PAIR, value), lambda value: BadList("numbers"), lambda value: isinstance(value, (list, tuple)))
        self.odd_stand(lambda value: shadow_behind(PAIR, [0, value, 9]), 2, NoQuestion)

    def test_bends(self):
        draws = Draws(290)
        for case in made_cases(291, 40, 3, 1, 2, 2):
            shadow = made_shadow(draws, case)
            if len(case.stock) == 0:
                continue
            for bent in some_bends(draws, shadow, 40):
                if right_shadow(case, bent):
                    self.assertEqual(shadow_after(case, bent, 0), shadow_on(case, bent, 0))
                else:
                    self.raises(BadSituation("shadow"), shadow_after, case, bent, 0)

    def test_too_many(self):
        begun = time.time()
        full = stay_case(2, 64, Wish.each(2))
        everything = list(product(range(64), repeat=2))
        self.assertEqual(shadow_after(full, [everything], 0), (tuple(everything),))
        trio = stay_case(3, 64, Wish.each(3))
        for shadow, error in (([everything, [], []], None), ([everything[1:], [(0, 0)], []], None), ([everything, [(0, 0)], []], MANY)):
            if error is None:
                self.assertEqual(len(sum(shadow_after(trio, shadow, 0), ())), 4096)
            else:
                self.raises(error, shadow_after, trio, shadow, 0)
                self.raises(NoQuestion(1), shadow_after, trio, shadow, 1)
        # Behind one question there are twice as many: 4,096 of them, or two more.
        split = Case.alike(Stock(3, 1, 2, [Question(0, [0, 0, 0])]), Rule(1, 2, [[s // 2 * 2, s // 2 * 2 + 1, 0, 0] for s in range(64)]), Wish.each(3))
        evens = [(s, t) for s in range(0, 64, 2) for t in range(0, 64, 2)]
        self.assertEqual(len(sum(shadow_after(split, [evens, evens, []], 0), ())), 4096)
        self.raises(MANY, shadow_after, split, [evens, evens, evens[:1]], 0)
        self.assertLess(time.time() - begun, 10)

    def test_too_many_groups(self):
        begun = time.time()
        wide = Case.alike(Stock.singles(16), truthful(), Wish.left(7))
        self.raises(MANY, first_shadow, wide)
        self.raises(MANY, shadow_behind, wide, [])
        self.raises(NoQuestion(16), shadow_behind, wide, [16])
        fine = Case.alike(Stock.singles(16), truthful(), Wish.left(3))
        self.assertEqual(len(first_shadow(fine)), 1820)
        self.assertEqual(len(sum(shadow_behind(fine, [0, 1]), ())), len(sum(shadow_on(fine, shadow_on(fine, first_shadow_of(fine), 0), 1), ())))
        free = Case.alike(Stock.singles(16), at_most(5), Wish.left(3))
        self.assertEqual(len(sum(shadow_behind(free, [0]), ())), 3640)
        self.raises(MANY, shadow_behind, free, [0, 0])
        self.assertLess(time.time() - begun, 10)

    def test_long_lists(self):
        begun = time.time()
        wide = Case.alike(Stock.singles(16), at_most(4), Wish.each(16))
        self.assertIs(is_bare(shadow_behind(wide, list(range(16)) * 3)), False)
        self.assertIs(is_bare(shadow_behind(wide, list(range(16)) * 9)), True)
        runs = Case.alike(Stock.singles(2), never_running(), Wish.each(2))
        self.assertIs(is_bare(shadow_behind(runs, [0, 1] * 2000)), False)
        turns = Case.alike(Stock.singles(2), one_in(3), Wish.each(2))
        self.assertIs(is_bare(shadow_behind(turns, [0, 1] * 2)), True)
        self.assertEqual(len(shadow_behind(Case.alike(Stock.splits(2), anything(), Wish.each(2)), [0] * 500)[0]), 1)
        self.assertLess(time.time() - begun, 10)


class Within(Checks, unittest.TestCase):
    def test_all_bends_of_one(self):
        shadow = shadow_behind(PAIR, [0])
        for bent in bends(shadow):
            self.assertIs(right_shadow(PAIR, bent), self.taken(bent))

    def taken(self, value):
        try:
            shadow_after(PAIR, value, 0)
        except BadSituation:
            return False
        return True


if __name__ == "__main__":
    unittest.main()
