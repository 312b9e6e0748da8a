"""truthwell.pasts."""

import copy
import unittest
from itertools import permutations
from itertools import product

from truthwell.errors import BadList
from truthwell.errors import BadPast
from truthwell.errors import BadRule
from truthwell.errors import Barred
from truthwell.errors import NoAnswerer
from truthwell.errors import NoHeap
from truthwell.errors import NoStand
from truthwell.errors import TooMany
from truthwell.pasts import after_past
from truthwell.pasts import counted_by_lies
from truthwell.pasts import is_lawful
from truthwell.pasts import lawful_pasts
from truthwell.pasts import rearranged
from truthwell.pasts import signs_of
from truthwell.ready import anything
from truthwell.ready import at_most
from truthwell.ready import never_running
from truthwell.rules import Rule

from helpers import BIG
from helpers import Checks
from helpers import Draws
from helpers import end_of
from helpers import made_rule
from helpers import made_rules
from helpers import pasts_to

RUNS = Rule(1, 2, [[0, 1, 1, 0], [0, None, None, 0]])


def is_triples(value):
    return isinstance(value, (list, tuple)) and all(
        isinstance(row, (list, tuple)) and len(row) == 3 and all(type(item) is int for item in row) for row in value)


def is_pairs(value):
    return isinstance(value, (list, tuple)) and all(
        isinstance(row, (list, tuple)) and len(row) == 2 and all(type(item) is int for item in row) for row in value)


class Led(Checks, unittest.TestCase):
    def test_against_rows(self):
        for rule in made_rules(11, 30) + made_rules(12, 5, 2, 2):
            for stand in range(len(rule)):
                for past in pasts_to(rule, 3):
                    end = end_of(rule, stand, past)
                    self.assertEqual(is_lawful(rule, stand, past), end is not None)
                    if end is None:
                        wrong = [k for k in range(len(past)) if end_of(rule, stand, past[:k + 1]) is None]
                        self.raises(Barred(wrong[0]), after_past, rule, stand, past)
                    else:
                        self.assertEqual(after_past(rule, stand, past), end)

    def test_empty(self):
        self.assertEqual([after_past(RUNS, 1, []), after_past(RUNS, 0, ()), is_lawful(RUNS, 1, []), signs_of([])], [1, 0, True, ""])

    def test_errors(self):
        for call in (after_past, is_lawful):
            self.odd(lambda value: call(value, value, value), lambda value: BadRule("rule"))
            self.odd_stand(lambda value: call(RUNS, value, 5), 2, NoStand)
            self.odd(lambda value: call(RUNS, 0, value), lambda value: BadPast("past"), is_triples)
            for bad in ([(0, 0)], [(0, 0, 0, 0)], [(0, 0, True)], [(0, 0, 0), 1], [(0, 9, 0), (0, 0, None)], "abc", ["abc"]):
                self.raises(BadPast("past"), call, RUNS, 0, bad)
            self.raises(NoAnswerer(1), call, RUNS, 0, [(0, 0, 0), (1, 2, 3), (9, 9, 9)])
            self.raises(NoAnswerer(-1), call, RUNS, 0, [[-1, 0, 0]])
            self.raises(NoHeap(2), call, RUNS, 0, [(0, 2, 3)])
            self.raises(NoHeap(BIG), call, RUNS, 0, [(0, 0, BIG), (7, 7, 7)])
            self.raises(NoHeap(2), call, RUNS, 1, [(0, 0, 1), (0, 0, 2)])
        self.raises(Barred(0), after_past, RUNS, 1, [(0, 0, 1)])
        self.raises(Barred(1), after_past, RUNS, 0, [[0, 0, 1], [0, 1, 0], [0, 1, 0]])
        self.assertEqual(after_past(rule=RUNS, stand=0, past=[[0, 0, 1]]), 1)

    def test_unchanged(self):
        past = [[0, 0, 1], [0, 1, 1]]
        kept = copy.deepcopy(past)
        after_past(RUNS, 0, past)
        list(rearranged(past))
        self.assertEqual(past, kept)


class Signs(Checks, unittest.TestCase):
    def test_signs(self):
        self.assertEqual(signs_of([(0, 1, 1), [3, 0, 1], (9, BIG, BIG), (-1, -2, -3)]), "TLTL")

    def test_errors(self):
        self.odd(signs_of, lambda value: BadPast("past"), is_triples)


class Lawful(Checks, unittest.TestCase):
    def asked_of(self, rule, most):
        pairs = list(product(range(rule.answerers), range(rule.heaps)))
        for length in range(most + 1):
            yield from product(pairs, repeat=length)

    def test_against_rows(self):
        for rule in made_rules(13, 12) + made_rules(14, 2, 2, 3):
            for stand in range(len(rule)):
                for asked in self.asked_of(rule, 3 if rule.answerers == 1 else 2):
                    wanted = []
                    for told in product(range(rule.heaps), repeat=len(asked)):
                        past = tuple((who, true, heap) for (who, true), heap in zip(asked, told))
                        if end_of(rule, stand, past) is not None:
                            wanted.append(past)
                    self.assertEqual(list(lawful_pasts(rule, stand, asked)), wanted)
                    counts = [0] * (len(asked) + 1)
                    for past in wanted:
                        counts[sum(true != told for who, true, told in past)] += 1
                    self.assertEqual(counted_by_lies(rule, stand, list(asked)), tuple(counts))

    def test_edges(self):
        self.assertEqual(list(lawful_pasts(RUNS, 0, [])), [()])
        self.assertEqual(counted_by_lies(RUNS, 0, []), (1,))
        self.assertEqual(len(list(lawful_pasts(anything(), 0, [(0, 1)] * 12))), 4096)
        self.raises(TooMany("asked", 12), lawful_pasts, anything(), 0, [(0, 1)] * 13)
        self.raises(NoHeap(7), lawful_pasts, anything(), 0, [(0, 1)] * 13 + [(0, 7)])
        counts = counted_by_lies(anything(1, 3), 0, [(0, 1)] * 60)
        self.assertEqual([len(counts), sum(counts), counts[0], counts[60], counts[1]], [61, 3 ** 60, 1, 2 ** 60, 120])
        self.raises(TooMany("asked", 60), counted_by_lies, anything(), 0, [(0, 1)] * 61)
        self.raises(NoAnswerer(7), counted_by_lies, anything(), 0, [(0, 1)] * 61 + [(7, 7)])
        self.assertEqual(counted_by_lies(at_most(2), 0, [(0, 0)] * 60)[:4], (1, 60, 1770, 0))

    def test_large(self):
        rule = made_rule(Draws(15), 4, 3, 64)
        asked = [(k % 4, k % 3) for k in range(60)]
        self.assertGreaterEqual(sum(counted_by_lies(rule, 0, asked)), 1)

    def test_errors(self):
        for call in (lawful_pasts, counted_by_lies):
            self.odd(lambda value: call(value, 9, 9), lambda value: BadRule("rule"))
            self.odd_stand(lambda value: call(RUNS, value, 5), 2, NoStand)
            self.odd(lambda value: call(RUNS, 0, value), lambda value: BadList("asked"), is_pairs)
            for bad in ([(0, 0, 0)], [(0,)], [(0, True)], [(0, 0), None], [(9, 9), (0, None)], ["00"]):
                self.raises(BadList("asked"), call, RUNS, 0, bad)
            self.raises(NoAnswerer(1), call, RUNS, 0, [(0, 0), (1, 5), (2, 2)])
            self.raises(NoHeap(-1), call, RUNS, 0, [(0, -1), (2, 2)])
        self.assertEqual(list(lawful_pasts(rule=RUNS, stand=1, asked=[[0, 1]])), [((0, 1, 1),)])

    def test_not_kept(self):
        asked = [[0, 0], [0, 1]]
        found = []
        for past in lawful_pasts(RUNS, 0, asked):
            asked[1][1] = 0
            found.append(past)
        self.assertEqual(found, list(lawful_pasts(RUNS, 0, [(0, 0), (0, 1)])))


class Rearranged(Checks, unittest.TestCase):
    def test_against_permutations(self):
        draws = Draws(16)
        for length in range(7):
            for _ in range(6):
                past = [(draws.below(2), draws.below(2) - 1, draws.below(2)) for _ in range(length)]
                self.assertEqual(list(rearranged(past)), sorted(set(permutations(past))))
                self.assertEqual(list(rearranged([list(triple) for triple in past])), sorted(set(permutations(past))))

    def test_edges(self):
        self.assertEqual(list(rearranged([])), [()])
        self.assertEqual(list(rearranged([[5, BIG, -1]] * 8)), [((5, BIG, -1),) * 8])
        self.assertEqual(len(list(rearranged([(k, 0, 0) for k in range(8)]))), 40320)
        self.raises(TooMany("past", 8), rearranged, [(0, 0, 0)] * 9)
        self.raises(BadPast("past"), rearranged, [(0, 0, 0)] * 9 + [()])

    def test_errors(self):
        self.odd(rearranged, lambda value: BadPast("past"), is_triples)

    def test_facts(self):
        for past in pasts_to(RUNS, 3):
            self.assertEqual(is_lawful(never_running(), 0, past), "LL" not in signs_of(past))


if __name__ == "__main__":
    unittest.main()
