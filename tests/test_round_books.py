"""truthwell.round_books, truthwell.round_costs, truthwell.round_rows."""

import time
import unittest

from truthwell.ahead import fewest_ahead
from truthwell.ahead import never_ahead
from truthwell.cases import Case
from truthwell.changed import with_rule
from truthwell.depths import depth_of
from truthwell.errors import BadCase
from truthwell.errors import BadNumber
from truthwell.errors import TooMany
from truthwell.papers import Denial
from truthwell.papers import Paper
from truthwell.questions import Question
from truthwell.ready import after_truths
from truthwell.ready import at_most
from truthwell.ready import truthful
from truthwell.round_books import RoundBook
from truthwell.round_books import RoundRing
from truthwell.round_books import in_rounds
from truthwell.round_books import never_in_rounds
from truthwell.rounds import RoundPlan
from truthwell.rounds import least_in_rounds
from truthwell.rules import Rule
from truthwell.stocks import Stock
from truthwell.wishes import Wish

from helpers import BIG
from helpers import Checks
from helpers import ODD
from helpers import is_int
from helpers import made_cases
from plain import all_clouds
from plain import settled_in_rounds
from plain_rounds import right_round_book
from plain_rounds import right_round_plan
from plain_rounds import right_round_ring
from rich_cases import rich_cases
from test_rounds import TWO
from test_rounds import cases

FULL = TooMany("clouds", 1000)
HALVES = [Question(0, [0, 0, 1, 1]), Question(0, [0, 1, 1, 1]), Question(0, [0, 0, 1, 0])]
FOUR = Case.alike(Stock(4, 1, 2, HALVES), truthful(), Wish.each(4))
LOOSE = with_rule(FOUR, after_truths(2), [0, 0, 0, 0])
LOOSER = Case.alike(Stock(7, 1, 2, [Question(0, [int(sign) for sign in word]) for word in "1101110 1000001 0001100 0110001 1110110".split()]),
                    after_truths(5), Wish.each(7))
# Two rounds are not enough, three are.
LOOSEST = with_rule(LOOSER, after_truths(3), [0] * 7)


def few_cases():
    """Cases of which not too many clouds come about, in two rounds or more."""
    some = cases() + made_cases(401, 40, 3, 2, 3, 3, 3)
    return [case for case in some if all_clouds(case, 2, 200) is not None] + rich_cases(402, 60, 200) + [FOUR, LOOSE, LOOSER, LOOSEST]


def rings(many):
    """Each of three questions moves one of three things round a ring of so many stands: many ** 3 clouds."""
    ring = Rule(1, 2, [[s + 1 if s < many - 1 else 0] * 2 + [s] * 2 for s in range(many)])
    return Case.alike(Stock(3, 1, 2, [Question(0, [0, 1, 1]), Question(0, [1, 0, 1]), Question(0, [1, 1, 0])]), ring, Wish.each(3))


def wide():
    """One question moves three things, round rings of 7, 11 and 13 stands: 1,001 clouds."""
    rows = []
    for begin, many in ((0, 7), (7, 11), (18, 13)):
        rows += [[begin + (s + 1 if s + 1 < many else 0)] * 4 for s in range(many)]
    return Case(Stock(3, 1, 2, [Question(0, [0, 0, 0])]), Rule(1, 2, rows), [0, 7, 18], Wish.each(3))


class InRounds(Checks, unittest.TestCase):
    def test_either_is_right(self):
        """Just where the least cost is at most the questions there is a plan; both are right by the words of the document."""
        seen = set()
        for case in few_cases():
            for rounds in (1, 2, 3, BIG):
                cost = least_in_rounds(case, rounds)
                for most in {0, 1, 2, 4, BIG, cost or 0, max((cost or 0) - 1, 0)}:
                    paper = in_rounds(case, rounds, most)
                    is_plan = cost is not None and cost <= most
                    seen.add((is_plan, rounds, cost is None))
                    self.assertIs(type(paper), RoundPlan if is_plan else RoundBook)
                    self.assertTrue((right_round_plan if is_plan else right_round_book)(case, paper.table, rounds, most))
        self.assertEqual(len(seen), 12)

    def test_by_trials(self):
        """A plan is found just where a trial of all lists, round by round, finds one."""
        seen = set()
        for case in few_cases()[::3]:
            for rounds in (1, 2, 3):
                for most in range(4 if len(case.stock) < 3 else 3):
                    found = settled_in_rounds(case, case.firsts, rounds, most)
                    seen.add((rounds, most, found))
                    self.assertIs(bool(in_rounds(case, rounds, most)), found)
        self.assertGreater(len(seen), 15)

    def test_never_and_then_a_number(self):
        """No list is enough, but two rounds are; likewise none for two, but three."""
        self.assertEqual([bool(in_rounds(LOOSE, 1, 99)), bool(in_rounds(LOOSE, 2, 2)), bool(in_rounds(LOOSE, 2, 1))], [False, True, False])
        self.assertEqual([least_in_rounds(LOOSER, rounds) for rounds in (1, 2, 3, 4)], [5, 4, 3, 3])
        self.assertEqual([least_in_rounds(with_rule(LOOSER, after_truths(4), [0] * 7), rounds) for rounds in (1, 2, 3, 4)], [None, 4, 3, 3])
        self.assertEqual([least_in_rounds(LOOSEST, rounds) for rounds in (1, 2, 3, BIG)], [None, None, 3, 3])
        for rounds in (1, 2):
            for most in (0, 1, 3, 50, BIG):
                book = in_rounds(LOOSEST, rounds, most)
                self.assertTrue(right_round_book(LOOSEST, book.table, rounds, most))
            self.assertTrue(right_round_ring(LOOSEST, never_in_rounds(LOOSEST, rounds).table, rounds))

    def test_edges(self):
        done = Case.alike(Stock.singles(2), at_most(1), Wish.left(2))
        for rounds in (1, 2, BIG):
            for most in (0, 1, BIG):
                self.assertEqual(in_rounds(done, rounds, most), RoundPlan([((0, 0), 0, 0, ())]))
        empty = Case.alike(Stock(2, 1, 2, []), truthful(), Wish.each(2))
        for rounds in (1, 2, BIG):
            for most in (0, 1, BIG):
                paper = in_rounds(empty, rounds, most)
                self.assertTrue(isinstance(paper, RoundBook) and right_round_book(empty, paper.table, rounds, most))
            self.assertTrue(right_round_ring(empty, never_in_rounds(empty, rounds).table, rounds))
        self.assertEqual(in_rounds(case=TWO, rounds=1, most=3).table[0][0], (-1, 0))

    def test_plan_asks_the_least(self):
        """What is enough with fewer is right for more, too."""
        for case in few_cases()[::2]:
            for rounds in (1, 2, BIG):
                cost = least_in_rounds(case, rounds)
                if cost is not None:
                    for most in (cost, cost + 1, BIG):
                        self.assertTrue(right_round_plan(case, in_rounds(case, rounds, most).table, rounds, most))

    def test_equal_again(self):
        for case in few_cases()[::5]:
            for rounds, most in ((1, 2), (2, 3), (3, 1)):
                self.assertEqual(in_rounds(case, rounds, most), in_rounds(case, rounds, most))
            self.assertEqual(never_in_rounds(case, 2), never_in_rounds(case, 2))

    def test_errors(self):
        self.odd(lambda value: in_rounds(value, None, None), lambda value: BadCase("case"))
        for value in ODD + [0, -1]:
            if not (is_int(value) and value >= 1):
                self.raises(BadNumber("rounds"), in_rounds, wide(), value, None)
            if not (is_int(value) and value >= 0):
                self.raises(BadNumber("most"), in_rounds, wide(), 1, value)
                self.raises(BadNumber("most"), in_rounds, TWO, 1, value)

    def test_too_many(self):
        begun = time.time()
        for rounds in (1, 2, BIG):
            case = rings(10)
            paper = in_rounds(case, rounds, BIG)
            self.assertEqual([type(paper), len(paper.table) <= 1000], [RoundBook, True])
            self.assertEqual(type(never_in_rounds(case, rounds)), RoundRing)
            self.raises(FULL, in_rounds, wide(), rounds, 0)
            self.raises(FULL, never_in_rounds, wide(), rounds)
        # In one round fewer come about than in two.
        loose = Case.alike(Stock.splits(3), at_most(2), Wish.each(3))
        known = [all_clouds(loose, rounds, 5000) for rounds in (1, 2)]
        self.assertTrue(len(known[0]) < len(known[1]))
        self.assertLess(time.time() - begun, 20)


class NeverInRounds(Checks, unittest.TestCase):
    def test_right(self):
        seen = set()
        for case in few_cases():
            for rounds in (1, 2, 3, BIG):
                paper = never_in_rounds(case, rounds)
                cost = least_in_rounds(case, rounds)
                seen.add((rounds, cost is None, depth_of(case) is None))
                self.assertIs(paper is None, cost is not None)
                if paper is not None:
                    self.assertIs(type(paper), RoundRing)
                    self.assertTrue(right_round_ring(case, paper.table, rounds))
        self.assertTrue({(1, True, False), (2, True, False), (1, True, True), (BIG, True, True), (1, False, False)} <= seen)

    def test_ahead(self):
        """One round is what is asked ahead."""
        many = 0
        for case in few_cases()[::3]:
            ring = never_ahead(case)
            self.assertIs(ring is None, never_in_rounds(case, 1) is None)
            found = fewest_ahead(case, 4)
            for most in range(5):
                self.assertIs(bool(in_rounds(case, 1, most)), bool(found) and len(found.numbers) <= most)
            many += ring is None
        self.assertGreater(many, 5)

    def test_errors(self):
        self.odd(lambda value: never_in_rounds(value, None), lambda value: BadCase("case"))
        for value in ODD + [0, -1]:
            if not (is_int(value) and value >= 1):
                self.raises(BadNumber("rounds"), never_in_rounds, wide(), value)


class Papers(unittest.TestCase):
    def test_books_and_rings(self):
        for made, word, row in ((RoundBook, "roundbook", [[[0, 0]], 1, 2]), (RoundRing, "roundring", [[[0, 0]], 1])):
            paper = made(table=[row])
            fixed_row = (((0, 0),),) + tuple(row[1:])
            self.assertEqual([paper.word, paper.table, paper.parts, bool(paper)], [word, (fixed_row,), ((fixed_row,),), False])
            self.assertTrue(isinstance(paper, Denial) and isinstance(paper, Paper))
            self.assertTrue(paper == made(paper.table) and paper != made([]))
        self.assertFalse(RoundBook([]) == RoundRing([]) or RoundBook([]) == RoundPlan([]))


if __name__ == "__main__":
    unittest.main()
