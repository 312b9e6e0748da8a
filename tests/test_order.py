"""truthwell.order."""

import time
import unittest
from itertools import permutations

from truthwell.errors import BadRule
from truthwell.errors import NoStand
from truthwell.least_rule import like_stands
from truthwell.order import OrderFree
from truthwell.order import Ordered
from truthwell.order import order_free
from truthwell.order import shows_order
from truthwell.papers import Denial
from truthwell.papers import Paper
from truthwell.ready import after_truths
from truthwell.ready import always_false
from truthwell.ready import anything
from truthwell.ready import at_most
from truthwell.ready import at_turns
from truthwell.ready import false_yes
from truthwell.ready import named_tells
from truthwell.ready import never_running
from truthwell.ready import one_in
from truthwell.ready import truthful
from truthwell.rules import Rule

from helpers import BIG
from helpers import Checks
from helpers import Draws
from helpers import ODD
from helpers import end_of
from helpers import is_ok
from helpers import made_rule
from helpers import made_rules
from helpers import pasts_to
from helpers import triples_of

RUNS = never_running()
LIE, TRUTH, OTHER = (0, 0, 1), (0, 0, 0), (0, 1, 1)


def fewest(rule, stand, most):
    """How many triples the shortest lawful past has of which some rearranging is not: by trying them all."""
    for past in pasts_to(rule, most):
        if is_ok(rule, stand, past):
            if not all(is_ok(rule, stand, row) for row in set(permutations(past))):
                return len(past)
    return None


def fewest_by_counts(rule, stand, most):
    """The same, by how many arrangements of so many of each triple are lawful, and how many there are."""
    triples = triples_of(rule)
    lawful = {(0,) * len(triples): {stand: 1}}
    total = {(0,) * len(triples): 1}
    for length in range(1, most + 1):
        new_lawful, new_total = {}, {}
        for counts, ends in lawful.items():
            for k, triple in enumerate(triples):
                more = counts[:k] + (counts[k] + 1,) + counts[k + 1:]
                new_total[more] = new_total.get(more, 0) + total[counts]
                found = new_lawful.setdefault(more, {})
                for end, many in ends.items():
                    behind = end_of(rule, end, [triple])
                    if behind is not None:
                        found[behind] = found.get(behind, 0) + many
        lawful, total = new_lawful, new_total
        if any(0 < sum(ends.values()) < total[counts] for counts, ends in lawful.items()):
            return length
    return None


def nearly_free(draws):
    """A rule in which each triple leads on by so many stands, or stays; but for one or two entries."""
    stands = 3 + draws.below(6)
    steps = [draws.below(2) * draws.below(stands) for _ in range(4)]
    last = draws.below(2) == 0
    rows = [[min(stand + step, stands - 1) if last else (stand + step) % stands for step in steps] for stand in range(stands)]
    for _ in range(1 + draws.below(2)):
        rows[stands - 1 - draws.below(2)][draws.below(4)] = draws.pick([None, None, stands - 1])
    for row in rows:
        row[0] = 0 if row[0] is None and row[1] is None else row[0]
        row[3] = 0 if row[2] is None and row[3] is None else row[3]
    return Rule(1, 2, rows)


def commutes(rule, stand):
    """By the two-triple words of the document."""
    likes = like_stands(rule)
    met = [stand]
    for at in met:
        for one in triples_of(rule):
            end = end_of(rule, at, [one])
            if end is not None and end not in met:
                met.append(end)
            for two in triples_of(rule):
                ends = [end_of(rule, at, [one, two]), end_of(rule, at, [two, one])]
                if ends.count(None) == 1 or None not in ends and likes[ends[0]] != likes[ends[1]]:
                    return False
    return True


class OrderFreeness(Checks, unittest.TestCase):
    def check(self, rule, stand, most):
        found = order_free(rule, stand)
        wanted = fewest(rule, stand, most)
        self.assertEqual(bool(found), commutes(rule, stand))
        self.assertIs(shows_order(rule, stand, found), True)
        if found:
            self.assertIsNone(wanted)
            self.assertEqual(found, OrderFree(like_stands(rule)))
        else:
            self.assertIsInstance(found, Ordered)
            self.assertEqual(sorted(found.past), sorted(found.other))
            self.assertTrue(is_ok(rule, stand, found.past) and not is_ok(rule, stand, found.other))
            self.assertEqual(len(found.past) if wanted is not None or len(found.past) <= most else None, wanted)
        self.assertEqual(order_free(rule, stand), found)

    def test_against_search(self):
        for rule in made_rules(41, 60) + made_rules(42, 30, most=2):
            for stand in range(len(rule)):
                self.check(rule, stand, 4)
        for rule in made_rules(43, 15, 2, 2, 2) + made_rules(44, 8, 1, 3, 2):
            self.check(rule, 0, 2)

    def test_as_few_as_can_be(self):
        rules = made_rules(45, 60, most=7) + made_rules(46, 10, 2, 2, 4) + [nearly_free(Draws(seed)) for seed in range(150)]
        lengths = []
        for rule in rules:
            found = order_free(rule, 0)
            self.assertIs(shows_order(rule, 0, found), True)
            wanted = fewest_by_counts(rule, 0, 9 if rule.answerers == 1 else 4)
            if wanted is not None:
                lengths.append(wanted)
                self.assertEqual(len(found.past), wanted)
            elif not found:
                self.assertGreater(len(found.past), 9 if rule.answerers == 1 else 4)
        self.assertGreaterEqual(max(lengths), 5)

    def test_near_and_far(self):
        # Two triples at stand 0 are told apart by four more; four triples on, at stand 6, two are by one more.
        rule = Rule.read("1 2 | 1 2 3 3 | 4 11 4 4 | 10 4 4 4 | 4 4 4 4 | 5 5 5 5 | 6 6 6 6 | 7 8 10 10 | 10 9 10 10 | 10 10 10 10 "
                         "| 10 10 - 10 | 10 10 10 10 | 12 11 11 11 | 13 12 12 12 | 14 13 13 13 | - 14 14 14")
        self.assertEqual(fewest_by_counts(rule, 0, 9), 6)
        self.assertEqual(len(order_free(rule, 0).past), 6)

    def test_which_of_two_orders(self):
        # Behind T, L only lies are let, behind L, T only truths: each is told apart by one answer.
        rule = Rule.read("1 2 | 1 2 2 1 | 1 3 3 1 | 4 2 2 4 | - 3 3 - | 4 - - 4")
        self.assertEqual(len(order_free(rule, 0).past), 3)
        self.assertIs(shows_order(rule, 0, order_free(rule, 0)), True)

    def test_ready(self):
        for rule in (truthful(), always_false(), anything(2, 3), at_most(5), false_yes(3), at_most(63, 4, 3)):
            self.assertTrue(order_free(rule, 0))
        for rule in (never_running(), one_in(3), after_truths(1), at_turns(2), named_tells(), named_tells(3)):
            self.assertFalse(order_free(rule, 0))
            self.check(rule, 0, 3 if rule.answerers == 1 else 2)
        self.assertTrue(order_free(after_truths(3), 3))
        self.assertEqual(len(order_free(after_truths(1), 0).past), 2)

    def test_long(self):
        # Nine triples must be told ahead of the first two whose order means something, and one behind them.
        rows = [[k + 1, k + 1, k + 1, k + 1] for k in range(10)] + [[10, 11, 11, 10], [10, None, None, 10]]
        self.assertEqual(len(order_free(Rule(1, 2, rows), 0).past), 12)
        # What the two orders of two triples leave differs, but only a past of many triples tells.
        rows = [[0, 1, 1, 0], [0, 2, 2, 0]] + [[k, k + 1, k + 1, k] for k in range(2, 8)] + [[8, None, None, 8]]
        found = order_free(Rule(1, 2, rows), 0)
        self.assertEqual((bool(found), len(found.past)), (False, 10))
        self.assertTrue(shows_order(Rule(1, 2, rows), 0, found))

    def test_large(self):
        begun = time.time()
        for seed, bars in ((1, 1), (2, 3)):
            rule = made_rule(Draws(seed), 4, 3, 64, bars)
            self.assertIs(shows_order(rule, 5, order_free(rule, 5)), True)
        self.assertLess(time.time() - begun, 20)

    def test_errors(self):
        for call in (order_free, lambda rule, stand: shows_order(rule, stand, None)):
            self.odd(lambda value: call(value, None), lambda value: BadRule("rule"))
            self.odd_stand(lambda value: call(RUNS, value), 2, NoStand)
        self.assertEqual(order_free(rule=truthful(), stand=0), OrderFree((0,)))


class Shown(unittest.TestCase):
    def test_order_free(self):
        rule = at_most(1)
        for stands in ((0, 1), [5, -7], (BIG, 0), [1, 0]):
            self.assertIs(shows_order(rule, 0, OrderFree(stands)), True)
        for stands in ((0, 0), (1, 1), (0,), (0, 1, 1), (), (0, True), (0, None), None, 5, "01", ("0", "1"), ((0, 1),), (0, 1.0)):
            self.assertIs(shows_order(rule, 0, OrderFree(stands)), False)
        twice = Rule(1, 2, [[0, 1, 2, 0], [1, None, None, 1], [2, None, None, 2]])
        for stands in ((0, 1, 1), (0, 1, 2), (7, 3, 3)):
            self.assertIs(shows_order(twice, 0, OrderFree(stands)), True, stands)
        for stands in ((0, 0, 0), (0, 0, 1), (0, 1, 0)):
            self.assertIs(shows_order(twice, 0, OrderFree(stands)), False, stands)

    def test_too_fine(self):
        # The orders of two triples lead to stands that are like, but have other numbers here.
        rule = Rule(1, 2, [[0, 1, 0, 0], [2, 1, 1, 1], [1, 2, 2, 2]])
        self.assertEqual(like_stands(rule), (0, 0, 0))
        self.assertIs(shows_order(rule, 0, OrderFree([0, 0, 0])), True)
        self.assertIs(shows_order(rule, 0, OrderFree([0, 1, 2])), False)
        self.assertIs(shows_order(rule, 0, OrderFree([0, 1, 1])), True)

    def test_unreached(self):
        # Only the stands to which lawful pasts lead must let triples in any order.
        rule = Rule(1, 2, [[0, None, None, 0], [0, 1, 1, 0]])
        self.assertIs(shows_order(rule, 0, OrderFree([0, 1])), True)
        self.assertIs(shows_order(rule, 1, OrderFree([0, 1])), False)

    def test_not_order_free(self):
        for stands in ((0, 1), (0, 0), (1, 0)):
            self.assertIs(shows_order(RUNS, 0, OrderFree(stands)), False)

    def test_ordered(self):
        for past, other in (((LIE, TRUTH, LIE), (LIE, LIE, TRUTH)), ([LIE, TRUTH, LIE, TRUTH], [TRUTH, LIE, LIE, TRUTH]),
                            ([[0, 0, 1], [0, 1, 1], [0, 1, 0]], ((0, 0, 1), (0, 1, 0), (0, 1, 1)))):
            self.assertIs(shows_order(RUNS, 0, Ordered(past, other)), True)
            self.assertIs(shows_order(RUNS, 0, Ordered(other, past)), False)
            self.assertIs(shows_order(at_most(3), 0, Ordered(past, other)), False)
        right = [LIE, TRUTH, LIE]
        for other in ((LIE, LIE, OTHER), (LIE, LIE), (LIE, LIE, TRUTH, TRUTH), (LIE, TRUTH, LIE), (), None, 3, "LLT",
                      (LIE, (0, 0, True), TRUTH), ((0, False, 1), LIE, TRUTH), (LIE, LIE, (0, 0)), (LIE, LIE, None)):
            self.assertIs(shows_order(RUNS, 0, Ordered(right, other)), False)
            self.assertIs(shows_order(RUNS, 0, Ordered(other, [LIE, LIE, TRUTH])), other == (LIE, TRUTH, LIE))
        self.assertIs(shows_order(RUNS, 0, Ordered([LIE, TRUTH, LIE, (0, 0, 2)], [LIE, LIE, TRUTH, (0, 0, 2)])), False)
        self.assertIs(shows_order(RUNS, 1, Ordered([LIE, TRUTH, LIE], [LIE, LIE, TRUTH])), False)
        self.assertIs(shows_order(RUNS, 1, Ordered([TRUTH, LIE], [LIE, TRUTH])), True)
        self.assertIs(shows_order(RUNS, 0, Ordered([(BIG, 0, 0)], [(BIG, 0, 0)])), False)

    def test_any_value(self):
        for value in ODD + [Paper("orderfree", (0, 1)), Denial("ordered", (), ()), OrderFree, (0, 1), [OrderFree((0, 1))]]:
            self.assertIs(shows_order(at_most(1), 0, value), False)
        for value in ODD:
            self.assertIs(shows_order(RUNS, 0, OrderFree(value)), False)
            self.assertIs(shows_order(RUNS, 0, Ordered(value, value)), False)
            self.assertIs(shows_order(RUNS, 0, Ordered([value], [value])), False)
            self.assertIs(shows_order(at_most(1), 0, OrderFree([0, value])), type(value) is int and value != 0)


if __name__ == "__main__":
    unittest.main()
