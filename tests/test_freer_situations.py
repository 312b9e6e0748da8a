"""truthwell.freer_situations, truthwell.shelves."""

import time
import unittest

from truthwell.cases import Case
from truthwell.errors import BadCase
from truthwell.errors import BadSituation
from truthwell.freer_situations import is_no_freer
from truthwell.freer_situations import least_free
from truthwell.questions import Question
from truthwell.ready import at_most
from truthwell.ready import never_running
from truthwell.ready import one_in
from truthwell.rules import Rule
from truthwell.situations import come_about
from truthwell.stocks import Stock
from truthwell.wishes import Wish

from helpers import BIG
from helpers import Checks
from helpers import Draws
from helpers import ODD
from helpers import made_cases
from plain import all_situations
from plain import freer_pairs
from plain import no_freer

RUNS = Case.alike(Stock(2, 1, 2, [Question(0, [0, 1])]), never_running(), Wish.each(2))
LIKE = Case.alike(Stock(2, 1, 2, []), Rule(1, 2, [[1, 2, 2, 1], [0, 2, 2, 0], [0, None, None, 1]]), Wish.each(2))


def least_ones(case, situations):
    """By the words of the document."""
    pairs = freer_pairs(case.rule, case.rule)
    found = []
    for one in situations:
        others = [other for other in situations if no_freer(pairs, other, one)]
        if all(no_freer(pairs, one, other) for other in others):
            found.append(min(tuple(other) for other in others))
    return tuple(sorted(set(found)))


class NoFreer(Checks, unittest.TestCase):
    def test_against_pairs(self):
        for case in made_cases(201, 25, 3):
            pairs = freer_pairs(case.rule, case.rule)
            everything = all_situations(case)
            draws = Draws(202)
            for _ in range(60):
                one, other = draws.pick(everything), draws.pick(everything)
                self.assertIs(is_no_freer(case, one, list(other)), no_freer(pairs, one, other))
                self.assertIs(is_no_freer(case, list(one), one), True)

    def test_out(self):
        self.assertIs(is_no_freer(RUNS, (-1, -1), (0, 1)), True)
        self.assertIs(is_no_freer(RUNS, (-1, -1), (-1, -1)), True)
        self.assertIs(is_no_freer(RUNS, (1, -1), (-1, -1)), False)
        self.assertIs(is_no_freer(RUNS, (-1, 1), (1, -1)), False)
        self.assertIs(is_no_freer(case=RUNS, one=[1, -1], other=[0, -1]), True)

    def test_errors(self):
        self.odd(lambda value: is_no_freer(value, None, None), lambda value: BadCase("case"))
        fine = [[0, 1], (-1, 0)]
        for value in ODD + [[0], [0, 0, 0], [0, 2], [-2, 0], [0, True], [0, BIG], "00"]:
            if value not in ([0, 0], (0, 1)):
                self.raises(BadSituation("one"), is_no_freer, RUNS, value, None)
                self.raises(BadSituation("other"), is_no_freer, RUNS, fine[0], value)

    def test_great_rule(self):
        many = Case.alike(Stock.singles(16), one_in(64), Wish.each(16))
        self.assertIs(is_no_freer(many, list(range(48, 64)), list(range(16))), True)
        self.assertIs(is_no_freer(many, list(range(16)), list(range(48, 64))), False)


class LeastFree(Checks, unittest.TestCase):
    def test_against_words(self):
        draws = Draws(203)
        for case in made_cases(204, 25, 3) + [LIKE]:
            everything = all_situations(case)
            for _ in range(8):
                some = [draws.pick(everything) for _ in range(draws.below(12))]
                wanted = least_ones(case, some)
                self.assertEqual(least_free(case, some), wanted)
                self.assertEqual(least_free(case, [list(one) for one in some + some]), wanted)

    def test_like_ones(self):
        self.assertEqual(least_free(LIKE, [(1, 0), (0, 1), (1, 1)]), ((0, 1),))
        self.assertEqual(least_free(LIKE, [(1, 1), (2, 2), (1, 2), (0, 2)]), ((2, 2),))
        self.assertEqual(least_free(LIKE, [(1, 0)]), ((1, 0),))

    def test_edges(self):
        self.assertEqual(least_free(RUNS, []), ())
        self.assertEqual(least_free(RUNS, ()), ())
        self.assertEqual(least_free(case=RUNS, situations=[(0, 0), [0, 0]]), ((0, 0),))
        self.assertEqual(least_free(RUNS, [(-1, -1), (0, -1), (1, 1)]), ((-1, -1),))

    def test_not_changed(self):
        some = [[1, 0], [0, 0]]
        least_free(RUNS, some)
        self.assertEqual(some, [[1, 0], [0, 0]])

    def test_many(self):
        begun = time.time()
        met = come_about(Case.alike(RUNS.stock, at_most(62), Wish.each(2)))
        case = Case.alike(RUNS.stock, at_most(62), Wish.each(2))
        self.assertEqual(least_free(case, met), ((-1, 62), (62, -1)))
        both = [one for one in met if -1 not in one]
        self.assertEqual(least_free(case, both), ((62, 62),))
        edge = [(s, 62 - s) for s in range(63)]
        self.assertEqual(least_free(case, edge + [(s, 61 - s) for s in range(62)]), tuple(sorted(edge)))
        self.assertLess(time.time() - begun, 5)

    def test_errors(self):
        self.odd(lambda value: least_free(value, None), lambda value: BadCase("case"))
        self.odd(lambda value: least_free(RUNS, value), lambda value: BadSituation("situations"),
                 lambda value: value in ([], (), [[0, 0]]) and not isinstance(value, dict))
        for value in ([[0, 0], [0]], [(0, 0), None], [[0, 0], [0, 2]], {(0, 0): 1}, [[True, 0]], "ab"):
            self.raises(BadSituation("situations"), least_free, RUNS, value)


if __name__ == "__main__":
    unittest.main()
