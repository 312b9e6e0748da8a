"""truthwell.prices, truthwell.price_walks."""

import time
import unittest

from truthwell.cases import Case
from truthwell.depths import depth_of
from truthwell.errors import BadCase
from truthwell.errors import BadNumber
from truthwell.errors import BadPrices
from truthwell.errors import TooMany
from truthwell.joined import each_own
from truthwell.papers import Denial
from truthwell.papers import Paper
from truthwell.prices import PriceBook
from truthwell.prices import PricePlan
from truthwell.prices import in_coins
from truthwell.prices import least_coins
from truthwell.questions import Question
from truthwell.ready import at_most
from truthwell.ready import truthful
from truthwell.stocks import Stock
from truthwell.wishes import Wish

from helpers import BIG
from helpers import Checks
from helpers import Draws
from helpers import ODD
from helpers import is_int
from helpers import made_cases
from plain_rounds import right_price_book
from plain_rounds import right_price_plan
from plain_rounds import settled_in_coins
from rich_cases import rich_cases
from test_depths import chain
from test_depths import ready_cases

DEAR = Case.alike(Stock(2, 2, 2, [Question(0, [0, 1]), Question(1, [0, 1])]), each_own([truthful(), at_most(1)]), Wish.each(2))
FULL = TooMany("situations", 4096)


def priced(seed):
    """Cases with prices."""
    draws = Draws(seed)
    some = made_cases(seed, 60, 3, 2, 3, 3, 3) + rich_cases(seed + 1, 50) + ready_cases()[::3]
    return [(case, [draws.pick([1, 1, 2, 3, 5, 9]) for _ in case.stock]) for case in some]


def too_wide():
    """4,097 situations come about, one too many."""
    return chain([0, 0, 63, 0])


class LeastCoins(Checks, unittest.TestCase):
    def test_by_trials(self):
        seen = set()
        for case, prices in priced(411):
            least = least_coins(case, prices)
            seen.add(least)
            known = {}
            self.assertIs(least is None, depth_of(case) is None)
            if least is not None and least < 25:
                self.assertTrue(settled_in_coins(case, prices, case.firsts, least, least, known))
                self.assertFalse(least > 0 and settled_in_coins(case, prices, case.firsts, least - 1, least - 1, known))
        self.assertTrue({None, 0, 1, 2, 3, 4, 5, 6} <= seen)

    def test_facts(self):
        """All prices 1: the least depth; prices that are so many times as great make so many times the coins."""
        for case, prices in priced(412):
            depth = depth_of(case)
            self.assertEqual(least_coins(case, [1] * len(prices)), depth)
            least = least_coins(case, prices)
            for times in (2, BIG):
                self.assertEqual(least_coins(case, [times * price for price in prices]), None if least is None else times * least)
            if depth is not None:
                self.assertTrue(depth <= least <= depth * max(prices + [1]))

    def test_edges(self):
        empty = Case.alike(Stock(2, 1, 2, []), truthful(), Wish.each(2))
        done = Case.alike(Stock(2, 1, 2, []), truthful(), Wish.left(2))
        self.assertEqual([least_coins(empty, []), least_coins(done, ()), least_coins(case=DEAR, prices=(5, 1))], [None, 0, 3])
        self.assertEqual([least_coins(DEAR, [4, 2]), least_coins(DEAR, [BIG, BIG]), least_coins(DEAR, [7, 2])], [4, BIG, 6])

    def test_errors(self):
        self.odd(lambda value: least_coins(value, None), lambda value: BadCase("case"))
        for case in (DEAR, Case.alike(Stock(2, 1, 2, [Question(0, [0, 1])]), truthful(), Wish.each(2)), too_wide()):
            for value in ODD + [[0, 1], [1, 0], [1, True], [1, None], [1, 1.0], [1, "1"], [1, 1, 1], [-1, 2], {1: 2, 2: 1}]:
                fits = isinstance(value, (list, tuple)) and len(value) == len(case.stock) and all(is_int(one) and one > 0 for one in value)
                if not fits:
                    self.raises(BadPrices("prices"), least_coins, case, value)
                    self.raises(BadPrices("prices"), in_coins, case, value, None, False)

    def test_too_many(self):
        begun = time.time()
        fine = chain([0, 0, 0, 0])
        self.assertEqual(least_coins(fine, [7]), 7 * depth_of(fine))
        self.raises(FULL, least_coins, too_wide(), [1])
        self.raises(FULL, in_coins, too_wide(), [1], 0)
        self.raises(FULL, in_coins, too_wide(), [1], 0, 0)
        for coins in (7 * depth_of(fine), 7 * depth_of(fine) - 1):
            paper = in_coins(fine, [7], coins)
            self.assertIs(bool(paper), coins % 7 == 0)
        self.assertLess(time.time() - begun, 20)


class InCoins(Checks, unittest.TestCase):
    def test_either_is_right(self):
        seen = set()
        for case, prices in priced(413):
            known = {}
            for coins in (0, 1, 2, 3, 5, 9, 15, BIG):
                for most in (None, 0, 1, 2, 3, 5, BIG):
                    questions = coins if most is None else most
                    paper = in_coins(case, prices, coins) if most is None else in_coins(case, prices, coins, most)
                    is_plan = isinstance(paper, PricePlan)
                    if questions < 16 and coins < 16:
                        self.assertIs(settled_in_coins(case, prices, case.firsts, questions, coins, known), is_plan)
                    self.assertIs(type(paper), PricePlan if is_plan else PriceBook)
                    self.assertTrue((right_price_plan if is_plan else right_price_book)(case, prices, paper.table, questions, coins))
                    seen.add((is_plan, most, coins))
        self.assertGreater(len(seen), 100)

    def test_none_as_many_as_coins(self):
        for case, prices in priced(414)[::2]:
            for coins in (0, 1, 4, 9):
                self.assertEqual(in_coins(case, prices, coins), in_coins(case, prices, coins, coins))
                self.assertEqual(in_coins(case, prices, coins, None), in_coins(case, tuple(prices), coins=coins, most=coins))

    def test_least_coins(self):
        for case, prices in priced(415):
            least = least_coins(case, prices)
            if least is None:
                self.assertFalse(in_coins(case, prices, BIG, BIG))
            else:
                self.assertTrue(in_coins(case, prices, least))
                self.assertTrue(least == 0 or not in_coins(case, prices, least - 1, BIG))

    def test_edges(self):
        done = Case.alike(Stock(2, 1, 2, []), truthful(), Wish.left(2))
        for coins, most in ((0, None), (0, 0), (BIG, BIG)):
            self.assertEqual(in_coins(done, [], coins, most), PricePlan([((0, 0), 0, 0, None)]))
        empty = Case.alike(Stock(2, 1, 2, []), truthful(), Wish.each(2))
        for coins, most in ((0, 0), (0, BIG), (3, None), (BIG, 0)):
            paper = in_coins(empty, [], coins, most)
            self.assertEqual(paper, PriceBook([((0, 0), coins if most is None else most, coins, ())]))
        self.assertEqual([bool(in_coins(DEAR, [5, 1], coins, most)) for coins, most in ((5, 1), (4, 1), (3, 3), (3, 2), (2, 9), (4, 2), (5, 0))],
                         [True, False, True, False, False, False, False])

    def test_great_numbers(self):
        """However great the bounds are, no more rows are made."""
        case = Case.alike(Stock.splits(2), at_most(2), Wish.each(2))
        for coins, most in ((BIG, 4), (4, BIG), (BIG - 1, BIG)):
            prices = [BIG, BIG] if coins >= BIG - 1 else [1, 1]
            paper = in_coins(case, prices, coins, most)
            self.assertTrue(isinstance(paper, PriceBook) and right_price_book(case, prices, paper.table, most, coins))
            self.assertLess(len(paper.table), 20)

    def test_equal_again(self):
        for case, prices in priced(416)[::5]:
            for coins in (0, 2, 7):
                self.assertEqual(in_coins(case, prices, coins), in_coins(case, prices, coins))

    def test_errors(self):
        self.odd(lambda value: in_coins(value, None, None, False), lambda value: BadCase("case"))
        for value in ODD + [-1]:
            if not (is_int(value) and value >= 0):
                self.raises(BadNumber("coins"), in_coins, too_wide(), [1], value, False)
                if value is not None:
                    self.raises(BadNumber("most"), in_coins, too_wide(), [1], 1, value)
                    self.raises(BadNumber("most"), in_coins, DEAR, [1, 1], 1, most=value)


class Papers(unittest.TestCase):
    def test_plans_and_books(self):
        for made, word, base in ((PricePlan, "priceplan", Paper), (PriceBook, "pricebook", Denial)):
            paper = made(table=[[[0, 0], 1, 2, [None, 0]]])
            row = ((0, 0), 1, 2, (None, 0))
            self.assertEqual([paper.word, paper.table, paper.parts, bool(paper)], [word, (row,), ((row,),), made is PricePlan])
            self.assertIs(isinstance(paper, Denial), base is Denial)
            self.assertTrue(isinstance(paper, Paper) and paper == made(paper.table) and paper != made([]))
        self.assertFalse(PricePlan([]) == PriceBook([]))


if __name__ == "__main__":
    unittest.main()
