"""truthwell.whole."""

import time
import unittest

from truthwell.ahead import Enough
from truthwell.ahead import fewest_ahead
from truthwell.ahead import never_ahead
from truthwell.books import find_book
from truthwell.cases import Case
from truthwell.depths import depth_of
from truthwell.depths import find_plan
from truthwell.errors import BadCase
from truthwell.errors import BadPrices
from truthwell.errors import TooMany
from truthwell.plans import Plan
from truthwell.prices import in_coins
from truthwell.prices import least_coins
from truthwell.questions import Question
from truthwell.ready import at_most
from truthwell.ready import never_running
from truthwell.ready import one_in
from truthwell.ready import truthful
from truthwell.rings import find_ring
from truthwell.round_books import in_rounds
from truthwell.round_books import never_in_rounds
from truthwell.rounds import least_in_rounds
from truthwell.stocks import Stock
from truthwell.whole import shows_whole
from truthwell.whole import told_whole
from truthwell.wishes import Wish

from bends import listed
from helpers import BIG
from helpers import Checks
from helpers import Draws
from helpers import ODD
from helpers import is_int
from helpers import made_cases
from plain import all_clouds
from rich_cases import rich_cases
from test_check_rounds import OTHERS
from test_depths import chain
from test_depths import ready_cases
from test_fronts import idle_rings
from test_papers_as_texts import NEVER
from test_papers_as_texts import TWO
from test_prices import DEAR
from test_round_books import FOUR
from test_round_books import LOOSE
from test_round_books import LOOSEST
from test_round_books import wide

FEW = TooMany("questions", 5)


def wanted_ahead(case):
    """The fewest questions asked ahead, None for never, 6 for more than 5."""
    found = fewest_ahead(case, 5)
    if found:
        return len(found.numbers)
    return None if never_ahead(case) is not None else 6


def priced_cases():
    draws = Draws(571)
    some = made_cases(572, 60, 3, 2, 3, 3, 3) + rich_cases(573, 40) + ready_cases()[::3] + [FOUR, LOOSE, LOOSEST, DEAR, TWO, NEVER]
    some = [case for case in some if all_clouds(case, 2, 300) is not None]
    return [(case, [draws.pick([1, 1, 2, 3, 5]) for _ in case.stock]) for case in some]


def told_cases():
    """Those of which all is told, with what is told."""
    found = []
    for case, prices in priced_cases():
        depth = depth_of(case)
        if (depth is None or depth <= 5) and wanted_ahead(case) != 6:
            found.append((case, prices, told_whole(case, prices)))
    return found


class Told(Checks, unittest.TestCase):
    def test_four_triples(self):
        seen = set()
        for case, prices, told in told_cases():
            depth, many, cost, coins = depth_of(case), wanted_ahead(case), least_in_rounds(case, 2), least_coins(case, prices)
            seen.add((depth is None, many is None, cost is None))
            ring = find_ring(case)
            wanted = [(None, None, ring) if depth is None else (depth, find_plan(case), find_book(case, depth - 1) if depth else None),
                      (None, None, never_ahead(case)) if many is None else (many, fewest_ahead(case, many), fewest_ahead(case, many - 1) if many else None),
                      (None, None, never_in_rounds(case, 2)) if cost is None else (cost, in_rounds(case, 2, cost), in_rounds(case, 2, cost - 1) if cost else None),
                      (None, None, ring) if coins is None else (coins, in_coins(case, prices, coins), in_coins(case, prices, coins - 1) if coins else None)]
            self.assertEqual(told, tuple(wanted))
            self.assertTrue(type(told) is tuple and all(type(triple) is tuple for triple in told))
            self.assertEqual(told_whole(case=case, prices=tuple(prices)), told)
        self.assertEqual(seen, {(False, False, False), (False, True, False), (False, True, True), (True, True, True)})

    def test_facts(self):
        """The second number is at least the third one, this at least the first one; the fourth is at least the first."""
        def above(one, other):
            return one is None or (other is not None and one >= other)

        for case, prices, told in told_cases():
            depth, many, cost, coins = [triple[0] for triple in told]
            self.assertTrue(above(many, cost) and above(cost, depth) and above(coins, depth))

    def test_edges(self):
        done = Case.alike(Stock.singles(2), truthful(), Wish.left(2))
        self.assertEqual([triple[0::2] for triple in told_whole(done, [3, 3])], [(0, None)] * 4)
        empty = Case.alike(Stock(2, 1, 2, []), truthful(), Wish.each(2))
        self.assertEqual([triple[:2] for triple in told_whole(empty, [])], [(None, None)] * 4)
        self.assertEqual([triple[0] for triple in told_whole(LOOSEST, [1] * 5)], [3, None, None, 3])

    def test_errors(self):
        for call in (told_whole, lambda *args: shows_whole(*args, None)):
            self.odd(lambda value: call(value, None), lambda value: BadCase("case"))
            for case in (DEAR, chain([0, 0, 63, 0])):
                for value in ODD + [[0, 1], [1, True], [1, 1, 1], [0], [True]]:
                    fits = isinstance(value, (list, tuple)) and len(value) == len(case.stock) and all(is_int(one) and one > 0 for one in value)
                    if not fits:
                        self.raises(BadPrices("prices"), call, case, value)

    def test_too_many_questions(self):
        begun = time.time()
        # The least depth is a number above 5.
        for lies, fits in ((0, True), (1, True), (2, True), (3, False)):
            case = Case.alike(Stock(2, 1, 2, [Question(0, [0, 1])]), at_most(lies), Wish.each(2))
            if fits:
                self.assertEqual([triple[0] for triple in told_whole(case, [2])], [2 * lies + 1] * 3 + [4 * lies + 2])
            else:
                self.raises(FEW, told_whole, case, [2])
        # Not above 5, but more than 5 are needed ahead, and enough.
        case = Case.alike(Stock(4, 1, 2, [Question(0, [0, 0, 1, 1]), Question(0, [0, 1, 0, 1])]), at_most(1), Wish.each(4))
        self.assertEqual([depth_of(case), wanted_ahead(case)], [5, 6])
        self.raises(FEW, told_whole, case, [1, 1])
        # Of never nothing is too many.
        self.assertEqual([triple[0] for triple in told_whole(NEVER, [1, 1])], [None] * 4)
        self.assertLess(time.time() - begun, 10)

    def test_order_of_too_many(self):
        """Number by number: situations, layers, depths; shadows; clouds."""
        begun = time.time()
        self.raises(TooMany("situations", 4096), told_whole, chain([0, 0, 63, 0]), [1])
        self.raises(FEW, told_whole, chain([0, 0, 0, 0]), [1])
        self.raises(TooMany("layer", 300), told_whole, idle_rings(7, 11, 13), [1])
        self.raises(TooMany("situations", 4096), told_whole, idle_rings(16, 17, 19), [1])
        # Settled, so that nothing is too many but the clouds.
        settled = Case(wide().stock, wide().rule, wide().firsts, Wish.left(3))
        self.raises(TooMany("clouds", 1000), told_whole, settled, [1])
        self.assertLess(time.time() - begun, 20)


class Shows(Checks, unittest.TestCase):
    def test_what_is_told(self):
        for case, prices, told in told_cases():
            self.assertIs(shows_whole(case=case, prices=prices, value=told), True)
            self.assertIs(shows_whole(case, tuple(prices), listed(told)), True)

    def wrong_papers(self, told, at):
        """What cannot stand as a paper in a triple: papers of others, other numbers."""
        number, can, short = told[at]
        others = [paper for triple in told for paper in triple[1:]]
        found = [(number, short, can), (number, can, can), (number, short, short), (number, None, short), (number, can, None), (None, None, short), (None, can, short), (number, ODD, short)]
        found += [(number, other, short) for other in OTHERS + others] + [(number, can, other) for other in OTHERS + others]
        if number is not None:
            found += [(number + 1, can, short), (number - 1, can, short), (str(number), can, short), (bool(number), can, short), (float(number), can, short), (BIG, can, short)]
        else:
            found += [(0, can, short), (1, can, short), (False, can, short)]
        return [triple for triple in found if not strict_same(triple, told[at])]

    def test_bent(self):
        many = 0
        for case, prices, told in told_cases()[::2]:
            for at in range(4):
                for triple in self.wrong_papers(told, at):
                    many += 1
                    # The ring of the depth is that of the coins.
                    wanted = triple[0] is None and triple[1] is None and told[at][0] is None and shows_whole(case, prices, told) and same_ring(triple, told[at])
                    self.assertIs(shows_whole(case, prices, told[:at] + (triple,) + told[at + 1:]), wanted, (at, triple))
            for value in (told[:3], told + told[:1], told[::-1], (told,), told[:3] + (told[3][:2],), told[:3] + (told[3] + (None,),), told[:3] + (None,)):
                if value != told:
                    self.assertIs(shows_whole(case, prices, value), False)
        self.assertGreater(many, 2000)

    def test_any_right_papers(self):
        """Any papers that are right for the numbers."""
        case, prices = TWO, [1, 1]
        told = told_whole(case, prices)
        plan = Plan(told[0][1].table + (((1, -1), 0, None),) if ((1, -1), 0, None) not in told[0][1].table else told[0][1].table)
        self.assertTrue(shows_whole(case, prices, ((3, plan, told[0][2]),) + told[1:]))
        other = fewest_ahead(Case.read(str(case)), 3)
        self.assertTrue(shows_whole(case, prices, (told[0], (3, Enough(other.numbers, other.table), told[1][2])) + told[2:]))
        more = in_rounds(case, 1, 3), in_rounds(case, 3, 2), in_coins(case, prices, 3, 3), in_coins(case, prices, 2, 9)
        self.assertTrue(shows_whole(case, prices, told[:2] + ((3,) + more[:2], (3,) + more[2:])))

    def test_not_above_five(self):
        """In the first two the numbers are not above 5, however right the papers are."""
        case = Case.alike(Stock(2, 1, 2, [Question(0, [0, 1])]), at_most(3), Wish.each(2))
        rounds = (7, in_rounds(case, 2, 7), in_rounds(case, 2, 6))
        coins = (7, in_coins(case, [1], 7), in_coins(case, [1], 6))
        self.assertFalse(shows_whole(case, [1], ((7, find_plan(case), find_book(case, 6)), (7, fewest_ahead(case, 7), fewest_ahead(case, 6)), rounds, coins)))
        # The others may be.
        dear = Case.alike(Stock(2, 1, 2, [Question(0, [0, 1])]), one_in(3), Wish.each(2))
        told = told_whole(dear, [BIG])
        self.assertEqual([told[3][0], shows_whole(dear, [BIG], told)], [depth_of(dear) * BIG, True])

    def test_any_values(self):
        for value in ODD + OTHERS + [[None] * 4, [[None] * 3] * 4, ([0, None, None],) * 4, "abcd", {0: 1, 1: 2, 2: 3, 3: 4}]:
            self.assertIs(shows_whole(TWO, [1, 1], value), False)
            self.assertIs(shows_whole(TWO, [1, 1], [value] * 4), False)
            self.assertIs(shows_whole(TWO, [1, 1], [[0, value, None]] * 4), False)
        self.assertIs(shows_whole(chain([0, 0, 63, 0]), [1], [[None, None, None]] * 4), False)
        never = Case.alike(TWO.stock, never_running(), Wish.each(2))
        self.assertIs(shows_whole(never, [1, 1], told_whole(never, [1, 1])), True)


def strict_same(one, other):
    return type(one[0]) is type(other[0]) and tuple(one) == tuple(other)


def same_ring(triple, told):
    return triple[2] is not None and triple[2] == told[2]


if __name__ == "__main__":
    unittest.main()
