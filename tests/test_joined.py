"""truthwell.joined."""

import time
import unittest
from itertools import product

from truthwell.errors import BadRule
from truthwell.errors import Silent
from truthwell.errors import TooMany
from truthwell.errors import Unlike
from truthwell.joined import both
from truthwell.joined import each_own
from truthwell.joined import either
from truthwell.ready import after_truths
from truthwell.ready import always_false
from truthwell.ready import anything
from truthwell.ready import at_most
from truthwell.ready import at_turns
from truthwell.ready import never_running
from truthwell.ready import one_in
from truthwell.ready import truthful
from truthwell.rules import Rule

from helpers import Checks
from helpers import Draws
from helpers import end_of
from helpers import is_ok
from helpers import made_rule
from helpers import made_rules
from helpers import pasts_to
from helpers import triples_of


def is_numbered(rule, firsts=1):
    """Whether the stands are numbered as they are met from so many first ones."""
    met = list(range(firsts))
    for stand in range(len(rule)):
        for entry in rule.rows[stand] if stand < len(met) else ():
            if entry is not None and entry not in met:
                met.append(entry)
    return met == list(range(len(rule)))


def goes_on(one, other, s, t, depth, known):
    """Whether, so many times, something that both let can be told, whatever is asked and true."""
    if depth == 0:
        return True
    key = (s, t, depth)
    if key not in known:
        known[key] = all(any(end_of(one, s, [(who, true, told)]) is not None and end_of(other, t, [(who, true, told)]) is not None
                             and goes_on(one, other, end_of(one, s, [(who, true, told)]),
                                         end_of(other, t, [(who, true, told)]), depth - 1, known)
                             for told in range(one.heaps))
                         for who, true in product(range(one.answerers), range(one.heaps)))
    return known[key]


class Both(Checks, unittest.TestCase):
    def check(self, one, other, most):
        known = {}
        depth = len(one) * len(other) + 1
        if not goes_on(one, other, 0, 0, depth, known):
            self.raises(Silent(), both, one, other)
            return False
        rule = both(one, other)
        self.assertTrue(is_numbered(rule))
        for past in pasts_to(one, most):
            wanted = is_ok(one, 0, past) and is_ok(other, 0, past) and all(
                goes_on(one, other, end_of(one, 0, past[:k]), end_of(other, 0, past[:k]), depth, known)
                for k in range(len(past) + 1))
            self.assertEqual(is_ok(rule, 0, past), wanted)
        return True

    def test_against_search(self):
        rules = made_rules(21, 60)
        done = [self.check(one, other, 4) for one, other in zip(rules, rules[1:])]
        rules = made_rules(22, 12, 2, 2)
        done += [self.check(one, other, 2) for one, other in zip(rules, rules[1:])]
        rules = made_rules(23, 12, 1, 3)
        done += [self.check(one, other, 2) for one, other in zip(rules, rules[1:])]
        self.assertTrue(10 < sum(done) < len(done) - 10)

    def test_falling_on(self):
        """What does not stay makes what leads to it not stay, whichever is met first."""
        rules = made_rules(30, 240, most=6)
        done = [self.check(one, other, 3) for one, other in zip(rules, rules[1:])]
        self.assertTrue(20 < sum(done) < len(done) - 20)
        one = Rule.read("1 2 | 1 2 3 1 | 3 - - 3 | 0 - - 0 | 2 - - 4 | 0 - - 0")
        for dead in (1, 2, 3, 4):
            rows = [[stand] * 4 for stand in range(5)]
            rows = [[entry if stand != dead else [None, entry][place in (1, 2)] for place, entry in enumerate(one.rows[stand])]
                    for stand in range(5)]
            rows[dead] = [None, dead, dead, None]
            other = Rule(1, 2, [[entry if entry is not None else stand for entry in row] if stand != dead else row
                                for stand, row in enumerate(rows)])
            self.check(one, other, 5)

    def test_plain(self):
        self.assertEqual(both(anything(), at_most(3)), at_most(3))
        self.assertEqual(both(truthful(2, 3), anything(2, 3)), truthful(2, 3))
        self.assertEqual(len(both(at_most(7), at_turns(8))), 64)
        self.raises(TooMany("stands", 64), both, at_most(8), at_turns(8))
        self.raises(Silent(), both, always_false(), after_truths(1))
        self.assertEqual(both(one=never_running(), other=never_running()), never_running())

    def test_large(self):
        begun = time.time()
        one, other = made_rule(Draws(24), 4, 3, 9, 1), made_rule(Draws(25), 4, 3, 11, 1)
        self.raises(TooMany("stands", 64), both, one, other)
        self.assertLess(time.time() - begun, 5)


class Either(Checks, unittest.TestCase):
    def check(self, one, other, most):
        rule = either(one, other)
        self.assertTrue(is_numbered(rule))
        for past in pasts_to(one, most):
            self.assertEqual(is_ok(rule, 0, past), is_ok(one, 0, past) or is_ok(other, 0, past))

    def test_against_search(self):
        for answerers, heaps, most in ((1, 2, 4), (2, 2, 2), (1, 3, 2)):
            rules = made_rules(26, 25, answerers, heaps)
            for one, other in zip(rules, rules[1:]):
                self.check(one, other, most)

    def test_plain(self):
        self.assertEqual(either(anything(), anything()), anything())
        self.assertEqual(str(either(anything(), truthful())), "1 2 | 0 1 1 0 | 1 1 1 1")
        self.assertEqual(either(one=truthful(), other=truthful()), truthful())

    def test_many_stands(self):
        found = []
        for many in range(1, 65):
            try:
                found.append(len(either(at_turns(many), after_truths(1))))
            except TooMany as error:
                self.assertEqual((error.what, error.most), ("stands", 64))
                found.append(None)
        self.assertIn(None, found)
        self.assertIn(64, found)

    def test_large(self):
        begun = time.time()
        for seed in range(6):
            one, other = made_rule(Draws(seed), 4, 3, 64, 1 + seed), made_rule(Draws(seed + 50), 4, 3, 64, 1 + seed)
            self.raises(TooMany("stands", 64), either, one, other)
        self.assertEqual(len(either(one_in(64, 4, 3), one_in(64, 4, 3))), 64)
        self.assertLess(time.time() - begun, 5)


class EachOwn(Checks, unittest.TestCase):
    def check(self, rules, most):
        rule = each_own(rules)
        self.assertEqual([rule.answerers, rule.heaps], [len(rules), rules[0].heaps])
        self.assertTrue(is_numbered(rule))
        for past in pasts_to(rule, most):
            wanted = all(is_ok(kept, 0, [(0, true, told) for who, true, told in past if who == index])
                         for index, kept in enumerate(rules))
            self.assertEqual(is_ok(rule, 0, past), wanted)

    def test_against_search(self):
        for heaps, most in ((2, 3), (3, 2)):
            rules = made_rules(27, 40, 1, heaps)
            for at in range(0, 36, 3):
                self.check(rules[at:at + 1], most)
                self.check(rules[at:at + 2], most)
                self.check(tuple(rules[at:at + 3]), most - 1)
            self.check(made_rules(29, 4, 1, heaps, 2), 1 if heaps == 3 else 2)

    def test_falls_away(self):
        rule = Rule(1, 2, [[2, None, None, 2], [0, 0, 0, 0], [2, 0, 0, 2]])
        self.assertEqual(str(each_own([rule])), "1 2 | 1 - - 1 | 1 0 0 1")
        self.assertEqual(len(each_own([rule, rule])), 4)

    def test_many_stands(self):
        self.assertEqual(len(each_own([one_in(8), at_most(7)])), 64)
        self.assertEqual(len(each_own([one_in(64)])), 64)
        self.assertEqual(len(each_own([one_in(4), at_most(3), never_running(), never_running()])), 64)
        self.raises(TooMany("stands", 64), each_own, [one_in(5), at_most(12)])
        begun = time.time()
        self.raises(TooMany("stands", 64), each_own, [made_rule(Draws(28), 1, 3, 64, 1)] * 4)
        self.assertLess(time.time() - begun, 5)


class Errors(Checks, unittest.TestCase):
    def test_two(self):
        for call in (both, either):
            self.odd(lambda value: call(value, value), lambda value: BadRule("one"))
            self.odd(lambda value: call(truthful(), value), lambda value: BadRule("other"))
            self.raises(Unlike("answerers"), call, truthful(2, 3), truthful(1, 2))
            self.raises(Unlike("heaps"), call, truthful(2, 3), truthful(2, 2))
        self.raises(Unlike("heaps"), both, truthful(1, 3), always_false())

    def test_each_own(self):
        self.odd(each_own, lambda value: BadRule("rules"))
        self.odd(lambda value: each_own([truthful(2), value]), lambda value: BadRule("rules"))
        self.raises(BadRule("rules"), each_own, [truthful()] * 5)
        self.raises(BadRule("rules"), each_own, truthful())
        self.raises(BadRule("rules"), each_own, {0: truthful()})
        self.raises(Unlike("answerers"), each_own, [truthful(1, 3), truthful(), truthful(2)])
        self.raises(Unlike("heaps"), each_own, [truthful(1, 3), truthful()])
        self.raises(Unlike("heaps"), each_own, [one_in(64), one_in(64), truthful(1, 3)])
        self.assertEqual(each_own(rules=[truthful()]), truthful())

    def test_list_not_kept(self):
        rules = [truthful(), never_running()]
        rule = each_own(rules)
        rules.clear()
        self.assertEqual(rule, each_own((truthful(), never_running())))
        self.assertEqual(len(triples_of(rule)), 8)


if __name__ == "__main__":
    unittest.main()
