"""truthwell.fronts."""

import time
import unittest

from truthwell.cases import Case
from truthwell.depths import depth_of
from truthwell.errors import BadCase
from truthwell.errors import BadPrices
from truthwell.errors import Never
from truthwell.errors import TooMany
from truthwell.fronts import CoinFront
from truthwell.fronts import RoundFront
from truthwell.fronts import coin_front
from truthwell.fronts import round_front
from truthwell.papers import Denial
from truthwell.papers import Paper
from truthwell.prices import PriceBook
from truthwell.prices import PricePlan
from truthwell.prices import in_coins
from truthwell.prices import least_coins
from truthwell.questions import Question
from truthwell.ready import at_most
from truthwell.ready import truthful
from truthwell.round_books import RoundBook
from truthwell.round_books import RoundRing
from truthwell.rounds import RoundPlan
from truthwell.rounds import least_in_rounds
from truthwell.rules import Rule
from truthwell.stocks import Stock
from truthwell.wishes import Wish

from helpers import BIG
from helpers import Checks
from helpers import Draws
from helpers import ODD
from helpers import made_cases
from plain import all_clouds
from plain_rounds import right_price_book
from plain_rounds import right_price_plan
from plain_rounds import right_round_book
from plain_rounds import right_round_plan
from plain_rounds import right_round_ring
from plain_rounds import settled_in_coins
from rich_cases import rich_cases
from test_depths import chain
from test_prices import DEAR
from test_round_books import FOUR
from test_round_books import LOOSE
from test_round_books import LOOSER
from test_round_books import LOOSEST
from test_round_books import few_cases
from test_round_books import rings
from test_round_books import wide

FOUR_POINTS = ("5 3 2 | 1 10100 | 2 01000 | 2 11000 | 2 00011 | 2 00101 ; 3 2 | 0 - - 0 0 1 1 0 0 2 2 0 | 1 - - 1 1 - - 1 1 3 3 1 | "
               "2 - - 2 2 3 3 2 2 4 4 2 | 3 - - 3 3 - - 3 3 5 5 3 | 4 - - 4 4 5 5 4 4 - - 4 | 5 - - 5 5 - - 5 5 - - 5 ; 0 0 0 0 0 ; classes 0 1 2 3 4")
THREE_POINTS = ("6 2 2 | 1 010100 | 1 000001 | 0 000010 | 1 110011 | 1 011010 ; 2 2 | 0 - - 0 0 1 1 0 | 1 - - 1 1 - - 1 ; 0 0 0 0 0 0 ; "
                "classes 0 1 2 3 4 5")
JUMPS = ("5 2 2 | 1 10101 | 1 11000 | 1 11001 ; 2 2 | 0 - - 0 0 1 1 0 | 1 - - 1 1 - - 1 ; 0 0 0 0 0 ; classes 0 1 2 3 4")


def idle_rings(*sizes):
    """One idle question moves three things round rings of such sizes: as many situations as their product."""
    rows, firsts = [], []
    for size in sizes:
        firsts.append(len(rows))
        rows += [[firsts[-1] + (s + 1) % size] * 4 for s in range(size)]
    return Case(Stock(3, 1, 2, [Question(0, [0, 0, 0])]), Rule(1, 2, rows), firsts, Wish.each(3))


def round_fronts():
    """Cases with a number as the least depth, of whose clouds there are not too many."""
    return [case for case in few_cases() + [Case.read(JUMPS)] if depth_of(case) is not None]


def coin_fronts():
    """Cases and prices, with a number as the least depth."""
    draws = Draws(421)
    some = [case for case in made_cases(422, 60, 3, 2, 3, 3, 3) + rich_cases(423, 60) if depth_of(case) is not None]
    found = [(case, [draws.pick([1, 2, 3, 5, 9]) for _ in case.stock]) for case in some]
    return found + [(DEAR, [5, 1]), (DEAR, [2, 1]), (DEAR, [3, 1]), (Case.read(FOUR_POINTS), [14, 9, 9, 5, 3]),
                    (Case.read(THREE_POINTS), [3, 14, 1, 3, 9])]


class RoundFronts(Checks, unittest.TestCase):
    def test_points(self):
        seen = set()
        for case in round_fronts():
            wanted = []
            for rounds in range(1, depth_of(case) + 2):
                cost = least_in_rounds(case, rounds)
                if cost is not None and (rounds == 1 or least_in_rounds(case, rounds - 1) is None or least_in_rounds(case, rounds - 1) > cost):
                    wanted.append((rounds, cost))
            front = round_front(case)
            self.assertIs(type(front), RoundFront)
            self.assertEqual(front.points, tuple(wanted))
            seen.add((len(wanted), wanted[0][0]))
        self.assertTrue({(1, 1), (2, 1), (3, 1), (1, 2), (1, 3)} <= seen)

    def test_plans_and_books(self):
        for case in round_fronts():
            front = round_front(case)
            self.assertEqual([len(front.plans), len(front.books)], [len(front.points), len(front.points) + 1])
            for (rounds, cost), plan in zip(front.points, front.plans):
                self.assertTrue(isinstance(plan, RoundPlan) and right_round_plan(case, plan.table, rounds, cost))
            first, last = front.points[0], front.points[-1]
            if first[0] == 1:
                self.assertIsNone(front.books[0])
            else:
                self.assertTrue(isinstance(front.books[0], RoundRing) and right_round_ring(case, front.books[0].table, first[0] - 1))
            for one, two, book in zip(front.points, front.points[1:], front.books[1:]):
                self.assertTrue(isinstance(book, RoundBook) and right_round_book(case, book.table, two[0] - 1, one[1] - 1))
            if last[1] == 0:
                self.assertIsNone(front.books[-1])
            else:
                book = front.books[-1]
                self.assertTrue(isinstance(book, RoundBook) and right_round_book(case, book.table, max(last[1] - 1, 1), last[1] - 1))

    def test_edges(self):
        done = Case.alike(Stock.singles(2), at_most(1), Wish.left(2))
        self.assertEqual(round_front(done), RoundFront(((1, 0),), [RoundPlan([((0, 0), 0, 0, ())])], [None, None]))
        one = Case.alike(Stock.singles(2), truthful(), Wish.each(2))
        front = round_front(case=one)
        self.assertEqual([front.points, front.books[0]], [((1, 1),), None])
        self.assertTrue(right_round_book(one, front.books[1].table, 1, 0))
        self.assertEqual([round_front(case).points for case in (FOUR, LOOSE, LOOSER, LOOSEST, Case.read(JUMPS))],
                         [((1, 3), (2, 2)), ((2, 2),), ((1, 5), (2, 4), (3, 3)), ((3, 3),), ((1, 9), (2, 7), (3, 6))])

    def test_never(self):
        many = 0
        for case in made_cases(424, 40, 3) + [Case.alike(Stock(2, 1, 2, []), truthful(), Wish.each(2)), rings(10)]:
            if depth_of(case) is None and all_clouds(case, 2, 1000) is not None:
                many += 1
                self.raises(Never(), round_front, case)
                self.raises(Never(), coin_front, case, [1 + at for at in range(len(case.stock))])
        self.assertGreater(many, 10)

    def test_errors(self):
        self.odd(round_front, lambda value: BadCase("case"))
        self.raises(TooMany("clouds", 1000), round_front, wide())
        # Fewer come about for one round; they are counted for two.
        case = Case.alike(Stock.splits(2), at_most(10), Wish.each(2))
        self.assertTrue(all_clouds(case, 1, 1000) is not None and all_clouds(case, 2, 1000) is None)
        self.assertEqual(least_in_rounds(case, 1), 21)
        self.raises(TooMany("clouds", 1000), round_front, case)

    def test_equal_again(self):
        for case in round_fronts()[::5]:
            self.assertEqual(round_front(case), round_front(case))


class CoinFronts(Checks, unittest.TestCase):
    def test_points(self):
        seen = set()
        for case, prices in coin_fronts():
            front = coin_front(case, prices)
            self.assertIs(type(front), CoinFront)
            seen.add(len(front.points))
            least = least_coins(case, prices)
            self.assertEqual([front.points[0][0], front.points[-1][1]], [depth_of(case), least])
            if front.points[-1][0] > 9 or front.points[0][1] > 40:
                continue
            known, wanted = {}, []
            for most in range(front.points[-1][0] + 3):
                for coins in range(wanted[-1][1] if wanted else front.points[0][1] + 5):
                    if settled_in_coins(case, prices, case.firsts, most, coins, known):
                        wanted.append((most, coins))
                        break
            self.assertEqual(front.points, tuple(wanted))
        self.assertTrue({1, 2, 3, 4} <= seen)

    def test_no_fewer(self):
        """For fewer of one, and no more of the other, there is no plan."""
        for case, prices in coin_fronts()[::2]:
            for most, coins in coin_front(case, prices).points:
                self.assertTrue(in_coins(case, prices, coins, most))
                self.assertFalse(coins > 0 and in_coins(case, prices, coins - 1, most))
                self.assertFalse(most > 0 and in_coins(case, prices, coins, most - 1))

    def test_plans_and_books(self):
        for case, prices in coin_fronts():
            front = coin_front(case, prices)
            points = front.points
            self.assertEqual([len(front.plans), len(front.books)], [len(points), len(points) + 1])
            for (most, coins), plan in zip(points, front.plans):
                self.assertTrue(isinstance(plan, PricePlan) and right_price_plan(case, prices, plan.table, most, coins))
            few = points[0][0] - 1
            wanted = [(few, few * max(prices + [1]))] + [(two[0] - 1, one[1] - 1) for one, two in zip(points, points[1:])]
            for (most, coins), book in zip(wanted + [(points[-1][1] - 1, points[-1][1] - 1)], front.books):
                if most < 0:
                    self.assertIsNone(book)
                else:
                    self.assertTrue(isinstance(book, PriceBook) and right_price_book(case, prices, book.table, most, coins))

    def test_edges(self):
        done = Case.alike(Stock(2, 1, 2, []), truthful(), Wish.left(2))
        self.assertEqual(coin_front(done, ()), CoinFront([(0, 0)], [PricePlan([((0, 0), 0, 0, None)])], [None, None]))
        one = Case.alike(Stock.singles(2), truthful(), Wish.each(2))
        front = coin_front(case=one, prices=[BIG, BIG + 1])
        self.assertEqual(front.points, ((1, BIG),))
        self.assertTrue(right_price_book(one, [BIG, BIG + 1], front.books[0].table, 0, 0))
        self.assertTrue(right_price_book(one, [BIG, BIG + 1], front.books[1].table, BIG - 1, BIG - 1))
        self.assertEqual(coin_front(Case.read(FOUR_POINTS), [14, 9, 9, 5, 3]).points, ((8, 68), (9, 63), (10, 59), (11, 57)))

    def test_errors(self):
        self.odd(lambda value: coin_front(value, None), lambda value: BadCase("case"))
        for value in ODD + [[0, 1], [1, True], [1], [1, 1, 1], [-1, 1]]:
            self.raises(BadPrices("prices"), coin_front, DEAR, value) if value not in ([1, 1], [1, 2]) else None
        self.raises(TooMany("situations", 4096), coin_front, chain([0, 0, 63, 0]), [1])
        # TooMany comes ahead of Never.
        self.assertEqual([depth_of(idle_rings(5, 7, 9)), depth_of(idle_rings(15, 16, 17))], [None, None])
        self.raises(Never(), coin_front, idle_rings(15, 16, 17), [1])
        self.raises(TooMany("situations", 4096), coin_front, idle_rings(16, 17, 19), [1])

    def test_bounds(self):
        begun = time.time()
        front = coin_front(chain([0, 0, 0, 0]), [3])
        self.assertEqual([front.points, len(front.plans[0].table), len(front.books[1].table) <= 4096], [((126, 378),), 4096, True])
        self.assertLess(time.time() - begun, 10)


class Papers(unittest.TestCase):
    def test_fronts(self):
        for made, word in ((RoundFront, "roundfront"), (CoinFront, "coinfront")):
            paper = made(points=[[1, 2]], plans=[None], books=[[3]])
            self.assertEqual([paper.word, paper.points, paper.plans, paper.books, bool(paper)], [word, ((1, 2),), (None,), ((3,),), True])
            self.assertEqual(paper.parts, (((1, 2),), (None,), ((3,),)))
            self.assertTrue(isinstance(paper, Paper) and not isinstance(paper, Denial))
            self.assertTrue(paper == made(*paper.parts) and paper != made([], [None], [[3]]))
        self.assertFalse(RoundFront([], [], []) == CoinFront([], [], []))


if __name__ == "__main__":
    unittest.main()
