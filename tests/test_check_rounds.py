"""truthwell.check_rounds, truthwell.round_checks, truthwell.price_checks."""

import time
import unittest

from truthwell.cases import Case
from truthwell.check_rounds import shows_coin_front
from truthwell.check_rounds import shows_in_coins
from truthwell.check_rounds import shows_in_rounds
from truthwell.check_rounds import shows_never_in_rounds
from truthwell.check_rounds import shows_round_front
from truthwell.errors import BadCase
from truthwell.errors import BadNumber
from truthwell.errors import BadPrices
from truthwell.fronts import CoinFront
from truthwell.fronts import RoundFront
from truthwell.fronts import coin_front
from truthwell.fronts import round_front
from truthwell.papers import Denial
from truthwell.papers import Paper
from truthwell.plans import Plan
from truthwell.prices import PriceBook
from truthwell.prices import PricePlan
from truthwell.prices import in_coins
from truthwell.prices import least_coins
from truthwell.questions import Question
from truthwell.ready import at_most
from truthwell.ready import never_running
from truthwell.ready import truthful
from truthwell.round_books import RoundBook
from truthwell.round_books import RoundRing
from truthwell.round_books import in_rounds
from truthwell.round_books import never_in_rounds
from truthwell.rounds import RoundPlan
from truthwell.rounds import least_in_rounds
from truthwell.stocks import Stock
from truthwell.wishes import Wish

from bends import listed
from bends import some_bends
from helpers import BIG
from helpers import Checks
from helpers import Draws
from helpers import ODD
from helpers import is_int
from plain import all_situations
from plain_rounds import right_price_book
from plain_rounds import right_price_plan
from plain_rounds import right_round_book
from plain_rounds import right_round_plan
from plain_rounds import right_round_ring
from test_depths import chain
from test_fronts import FOUR_POINTS
from test_fronts import JUMPS
from test_fronts import coin_fronts
from test_fronts import idle_rings
from test_fronts import round_fronts
from test_prices import DEAR
from test_prices import priced
from test_round_books import FOUR
from test_round_books import LOOSE
from test_round_books import LOOSEST
from test_round_books import few_cases
from test_round_books import rings
from test_round_books import wide
from test_rounds import TWO

OTHERS = [Paper("roundplan", ()), Denial("roundbook", ()), Plan(()), RoundPlan(()), RoundBook(()), RoundRing(()), PricePlan(()), PriceBook(()),
          RoundFront((), (), ()), CoinFront((), (), ())]


class InRounds(Checks, unittest.TestCase):
    def test_what_is_made(self):
        for case in few_cases():
            for rounds in (1, 2, 3, BIG):
                cost = least_in_rounds(case, rounds)
                for most in (0, 1, 3, 5, BIG):
                    paper = in_rounds(case, rounds, most)
                    self.assertTrue(shows_in_rounds(case, rounds, most, paper))
                    if isinstance(paper, RoundPlan):
                        self.assertTrue(shows_in_rounds(case, rounds + 1, most + 1, paper))
                        self.assertFalse(cost > 0 and shows_in_rounds(case, rounds, cost - 1, paper))
                    else:
                        self.assertEqual(shows_in_rounds(case, rounds, most + 1, paper), right_round_book(case, paper.table, rounds, most + 1))
                        self.assertEqual(shows_in_rounds(case, rounds + 1, most, paper), right_round_book(case, paper.table, rounds + 1, most))
                        self.assertTrue(rounds == 1 or shows_in_rounds(case, rounds - 1, most, paper))

    def test_bent(self):
        """Papers that are bent at one place are right just where the words of the document say so."""
        draws = Draws(431)
        seen = {True: 0, False: 0}
        for case in few_cases()[::4] + [LOOSE, LOOSEST, FOUR]:
            for rounds, most in ((1, 2), (2, 2), (2, 3), (3, 1)):
                paper = in_rounds(case, rounds, most)
                right = right_round_plan if isinstance(paper, RoundPlan) else right_round_book
                for table in some_bends(draws, paper.table, 40):
                    wanted = right(case, table, rounds, most)
                    seen[wanted] += 1
                    self.assertIs(shows_in_rounds(case, rounds, most, type(paper)(table)), wanted, table)
        self.assertTrue(seen[True] > 100 and seen[False] > 1000)

    def test_made_up_rows(self):
        """Rows of situations that never come about, and in which nothing is open."""
        self.assertTrue(shows_in_rounds(TWO, 1, 0, RoundBook([[[[-1, -1], [0, 0]], 1, 0], [[[0, 0]], 1, 0]])))
        self.assertFalse(shows_in_rounds(TWO, 1, 0, RoundBook([[[[-1, -1]], 1, 0], [[[0, 0]], 1, 0]])))
        draws = Draws(432)
        for case in few_cases()[::6]:
            everything = all_situations(case)
            for rounds, most in ((1, 0), (2, 1)):
                paper = in_rounds(case, rounds, most)
                for _ in range(10):
                    cloud = sorted({draws.pick(everything) for _ in range(1 + draws.below(3))})
                    if isinstance(paper, RoundBook):
                        table = paper.table + ((tuple(cloud), 1 + draws.below(3), draws.below(3)),)
                        self.assertIs(shows_in_rounds(case, rounds, most, RoundBook(table)), right_round_book(case, table, rounds, most))
                    table = paper.table + ((cloud[0], draws.below(3), draws.below(3), tuple(draws.below(len(case.stock) + 1) for _ in range(draws.below(2)))),)
                    if isinstance(paper, RoundPlan):
                        self.assertIs(shows_in_rounds(case, rounds, most, RoundPlan(table)), right_round_plan(case, table, rounds, most))

    def test_rows_in_any_order(self):
        for case in few_cases()[::4]:
            paper = in_rounds(case, 2, 2)
            for table in (paper.table[::-1], listed(paper.table)[::-1]):
                self.assertTrue(shows_in_rounds(case, 2, 2, type(paper)(table)))

    def test_by_hand(self):
        plan = RoundPlan([[[0, 0], 1, 3, [0, 0, 0]], [[1, -1], 0, 0, []], [[0, -1], 0, 0, []], [[-1, 0], 0, 0, []], [[-1, 1], 0, 0, []]])
        self.assertEqual([shows_in_rounds(TWO, 1, 3, plan), shows_in_rounds(TWO, 1, 2, plan), shows_in_rounds(case=TWO, rounds=2, most=4, value=plan)],
                         [True, False, True])
        # A round of two questions and one of one; the second round may cost more elsewhere.
        more = RoundPlan([[[0, 0], 2, 3, [0, 0]], [[1, 1], 1, 1, [0]], [[0, -1], 0, 0, []], [[-1, 0], 0, 0, []], [[1, -1], 0, 0, []], [[-1, 1], 0, 0, []]])
        self.assertEqual([shows_in_rounds(TWO, 2, 3, more), shows_in_rounds(TWO, 1, 3, more)], [True, False])

    def test_any_values(self):
        for value in ODD + OTHERS + [RoundPlan, RoundBook([[[[0, 0]], 1, True]]), RoundPlan([[(0, 0), 1, 1, None]]), RoundBook([None]), RoundPlan("ab")]:
            self.assertIs(shows_in_rounds(TWO, 1, 0, value), False)
        for table in ODD:
            self.assertIs(shows_in_rounds(TWO, 1, 0, RoundPlan(table)), False)
            self.assertIs(shows_in_rounds(TWO, 1, 0, RoundBook(table)), False)
            self.assertIs(shows_in_rounds(TWO, 1, 0, RoundBook([[[[0, 0]], 1, 0], table])), False)

    def test_errors(self):
        paper = in_rounds(TWO, 1, 2)
        self.odd(lambda value: shows_in_rounds(value, None, None, paper), lambda value: BadCase("case"))
        for value in ODD + [0, -1]:
            if not (is_int(value) and value >= 1):
                self.raises(BadNumber("rounds"), shows_in_rounds, TWO, value, None, None)
            if not (is_int(value) and value >= 0):
                self.raises(BadNumber("most"), shows_in_rounds, TWO, 1, value, None)

    def test_never_too_many(self):
        begun = time.time()
        case = wide()
        for rounds in (1, 2, BIG):
            # The first situation goes round in a ring of 1,001 clouds.
            clouds = [((s % 7, 7 + s % 11, 18 + s % 13),) for s in range(1001)]
            self.assertTrue(shows_in_rounds(case, rounds, BIG, RoundBook([(cloud, rounds, BIG) for cloud in clouds])))
            self.assertTrue(shows_never_in_rounds(case, rounds, RoundRing([(cloud, rounds) for cloud in clouds])))
            self.assertFalse(shows_never_in_rounds(case, rounds, RoundRing([(cloud, rounds) for cloud in clouds[:-1]])))
        case = rings(10)
        self.assertTrue(shows_in_rounds(case, 2, BIG, in_rounds(case, 2, BIG)) and shows_never_in_rounds(case, 2, never_in_rounds(case, 2)))
        self.assertLess(time.time() - begun, 20)


class NeverInRounds(Checks, unittest.TestCase):
    def test_what_is_made(self):
        for case in few_cases():
            for rounds in (1, 2, 3, BIG):
                paper = never_in_rounds(case, rounds)
                if paper is not None:
                    self.assertTrue(shows_never_in_rounds(case, rounds, paper))
                    self.assertTrue(rounds == 1 or shows_never_in_rounds(case, rounds - 1, paper))
                    self.assertIs(shows_never_in_rounds(case, rounds + 1, paper), right_round_ring(case, paper.table, rounds + 1))
                    self.assertTrue(shows_never_in_rounds(case, rounds, RoundRing(listed(paper.table)[::-1])))

    def test_bent(self):
        draws = Draws(433)
        seen = {True: 0, False: 0}
        for case in few_cases()[::3] + [LOOSE, LOOSEST]:
            for rounds in (1, 2, 3):
                paper = never_in_rounds(case, rounds)
                for table in [] if paper is None else some_bends(draws, paper.table, 40):
                    wanted = right_round_ring(case, table, rounds)
                    seen[wanted] += 1
                    self.assertIs(shows_never_in_rounds(case, rounds, RoundRing(table)), wanted)
        self.assertTrue(seen[True] > 20 and seen[False] > 500)

    def test_any_values(self):
        for value in ODD + OTHERS:
            self.assertIs(shows_never_in_rounds(LOOSE, 1, value), False)
            self.assertIs(shows_never_in_rounds(LOOSE, 1, RoundRing(value)), False)
            self.assertIs(shows_never_in_rounds(LOOSE, 1, RoundRing([value])), False)

    def test_errors(self):
        self.odd(lambda value: shows_never_in_rounds(value, None, None), lambda value: BadCase("case"))
        for value in ODD + [0, -1]:
            if not (is_int(value) and value >= 1):
                self.raises(BadNumber("rounds"), shows_never_in_rounds, TWO, value, None)


class InCoins(Checks, unittest.TestCase):
    def test_what_is_made(self):
        for case, prices in priced(434):
            for coins, most in ((0, 0), (1, None), (3, 2), (4, 9), (9, None), (BIG, 2), (BIG, BIG)):
                questions = coins if most is None else most
                paper = in_coins(case, prices, coins, most)
                self.assertTrue(shows_in_coins(case, prices, coins, paper, most))
                self.assertTrue(shows_in_coins(case, tuple(prices), coins, type(paper)(listed(paper.table)[::-1]), questions))
                right = right_price_plan if isinstance(paper, PricePlan) else right_price_book
                for other, more in ((coins + 1, questions), (coins, questions + 1), (max(coins - 1, 0), questions), (coins, max(questions - 1, 0))):
                    self.assertIs(shows_in_coins(case, prices, other, paper, more), right(case, prices, paper.table, more, other))

    def test_bent(self):
        draws = Draws(435)
        seen = {True: 0, False: 0}
        for case, prices in priced(436)[::3] + [(DEAR, [5, 1]), (DEAR, [2, 1])]:
            for coins, most in ((1, 1), (3, 2), (4, None), (6, 3)):
                questions = coins if most is None else most
                paper = in_coins(case, prices, coins, most)
                right = right_price_plan if isinstance(paper, PricePlan) else right_price_book
                for table in some_bends(draws, paper.table, 40):
                    wanted = right(case, prices, table, questions, coins)
                    seen[wanted] += 1
                    self.assertIs(shows_in_coins(case, prices, coins, type(paper)(table), most), wanted)
        self.assertTrue(seen[True] > 100 and seen[False] > 1000)

    def test_stands_for(self):
        """A row may be for a situation that is no freer than the one that is asked for."""
        case = Case.alike(Stock(2, 1, 2, [Question(0, [0, 1])]), never_running(), Wish.each(2))
        book = PriceBook([((0, 1), 9, 9, (1,)), ((1, 0), 9, 9, (0,))])
        self.assertIs(shows_in_coins(case, [1], 9, book), right_price_book(case, [1], book.table, 9, 9))
        self.assertTrue(shows_in_coins(case, [1], 9, book))
        self.assertFalse(shows_in_coins(case, [1], 10, book) or shows_in_coins(case, [1], 9, PriceBook(book.table[:1])))

    def test_any_values(self):
        for value in ODD + OTHERS:
            self.assertIs(shows_in_coins(DEAR, [1, 1], 0, value), False)
            for made in (PricePlan, PriceBook):
                self.assertIs(shows_in_coins(DEAR, [1, 1], 0, made(value)), False)
                self.assertIs(shows_in_coins(DEAR, [1, 1], 0, made([value])), False)
                self.assertIs(shows_in_coins(DEAR, [1, 1], 0, made([[(0, 0), 0, 0, value]])), made is PriceBook and value == [None, None])

    def test_errors(self):
        self.odd(lambda value: shows_in_coins(value, None, None, None, False), lambda value: BadCase("case"))
        for value in ODD:
            if value not in ([1, 1], [1, 2]):
                self.raises(BadPrices("prices"), shows_in_coins, DEAR, value, None, None, False)
            if not (is_int(value) and value >= 0):
                self.raises(BadNumber("coins"), shows_in_coins, DEAR, [1, 1], value, None, False)
                if value is not None:
                    self.raises(BadNumber("most"), shows_in_coins, DEAR, [1, 1], 0, None, value)

    def test_never_too_many(self):
        case = idle_rings(16, 17, 19)
        rows = [((s % 16, 16 + s % 17, 33 + s % 19), BIG, BIG, (0,)) for s in range(16 * 17 * 19)]
        self.assertTrue(shows_in_coins(case, [1], BIG, PriceBook(rows)))
        # All stands are like here, so one row stands for all; but none must be left out.
        self.assertTrue(shows_in_coins(case, [1], BIG, PriceBook(rows[7:8])))
        self.assertFalse(shows_in_coins(case, [1], BIG, PriceBook([])) or shows_in_coins(case, [1], BIG + 1, PriceBook(rows)))
        more = chain([0, 0, 63, 0])
        self.assertFalse(shows_in_coins(more, [1], 9, PricePlan([])))
        self.assertFalse(shows_coin_front(more, [1], CoinFront([(1, 1)], [None], [None, None])))


class Fronts(Checks, unittest.TestCase):
    def test_what_is_made(self):
        for case in round_fronts():
            self.assertTrue(shows_round_front(case, round_front(case)))
        for case, prices in coin_fronts():
            self.assertTrue(shows_coin_front(case, prices, coin_front(case, prices)))

    def bent(self, front, shows, draws):
        """What is lost, put in, moved or changed in a front of unlike points."""
        points, plans, books = front.parts
        made = type(front)
        for other in some_bends(draws, points, 40):
            if other != points or not isinstance(other, tuple):
                self.assertFalse(shows(made(other, plans, books)), other)
        for at in range(len(plans)):
            for wrong in [None, plans[at].table, books[-1], ODD] + OTHERS + [plan for plan in plans[:at] + plans[at + 1:]]:
                self.assertFalse(shows(made(points, plans[:at] + (wrong,) + plans[at + 1:], books)))
        for at in range(len(books)):
            for wrong in [0, (), plans[0], ODD] + OTHERS + [None] * (books[at] is not None):
                self.assertFalse(shows(made(points, plans, books[:at] + (wrong,) + books[at + 1:])))
        for parts in ((points, plans[1:], books), (points, plans + plans[:1], books), (points, plans, books[1:]), (points, plans, books + (None,)),
                      (points[1:], plans[1:], books[1:]), (points[:-1], plans[:-1], books[:-1]), ((), (), ()), ((), (), (None,)), (None, plans, books),
                      (points, None, books), (points, plans, None), (points + points, plans + plans, books + books[1:])):
            self.assertFalse(shows(made(*parts)), parts[0])
        self.assertTrue(shows(made(listed(points), list(plans), list(books))))

    def test_bent(self):
        draws = Draws(437)
        for case in (FOUR, LOOSE, LOOSEST, Case.read(JUMPS)):
            front = round_front(case)
            self.bent(front, lambda value: shows_round_front(case, value), draws)
            self.assertFalse(shows_round_front(case, CoinFront(*front.parts)))
        for case, prices in ((DEAR, [5, 1]), (DEAR, [2, 1]), (Case.read(FOUR_POINTS), [14, 9, 9, 5, 3])):
            front = coin_front(case, prices)
            self.bent(front, lambda value: shows_coin_front(case, prices, value), draws)
            self.assertFalse(shows_coin_front(case, prices, RoundFront(*front.parts)))
            self.assertFalse(shows_coin_front(case, [price + 1 for price in prices], front))

    def test_no_points_left_out(self):
        """A front without its middle point has no book between the two that are left."""
        case = Case.read(JUMPS)
        front = round_front(case)
        for rounds, most in ((2, 8), (2, 7)):
            paper = in_rounds(case, rounds, most)
            self.assertFalse(shows_round_front(case, RoundFront((front.points[0], front.points[2]), (front.plans[0], front.plans[2]),
                                                                (None, paper, front.books[3]))))

    def test_settled(self):
        done = Case.alike(Stock.singles(2), at_most(1), Wish.left(2))
        plan, paid = RoundPlan([((0, 0), 0, 0, ())]), PricePlan([((0, 0), 0, 0, None)])
        for points, wanted in ((((1, 0),), True), (((2, 0),), False), (((0, 0),), False), (((1, 1),), False), (((1, False),), False), (((True, 0),), False)):
            self.assertIs(shows_round_front(done, RoundFront(points, (plan,), (None, None))), wanted)
        for points, wanted in ((((0, 0),), True), (((1, 0),), False), (((0, 1),), False), (((False, 0),), False)):
            self.assertIs(shows_coin_front(done, [1, 1], CoinFront(points, (paid,), (None, None))), wanted)

    def test_no_never(self):
        empty = Case.alike(Stock(2, 1, 2, []), truthful(), Wish.each(2))
        for value in ODD + OTHERS + [round_front(FOUR), coin_front(DEAR, [5, 1]), RoundFront([(1, 1)], [None], [None, None]), CoinFront([(1, 1)], [None], [None, None])]:
            self.assertIs(shows_round_front(empty, value), False)
            self.assertIs(shows_coin_front(empty, [], value), False)
            self.assertIs(shows_round_front(TWO, value), False)
        self.assertIsNone(least_coins(empty, []))

    def test_errors(self):
        front = coin_front(DEAR, [5, 1])
        self.odd(lambda value: shows_round_front(value, None), lambda value: BadCase("case"))
        self.odd(lambda value: shows_coin_front(value, None, front), lambda value: BadCase("case"))
        for value in ODD:
            if value not in ([1, 1], [1, 2]):
                self.raises(BadPrices("prices"), shows_coin_front, DEAR, value, front)


if __name__ == "__main__":
    unittest.main()
