"""truthwell.fading."""

import unittest
from itertools import product

from truthwell.cases import Case
from truthwell.errors import BadCase
from truthwell.fading import Fading
from truthwell.fading import Grows
from truthwell.fading import fading
from truthwell.fading import shows_fading
from truthwell.freer import Freer
from truthwell.freer import NoFreer
from truthwell.papers import Denial
from truthwell.papers import Paper
from truthwell.ready import after_truths
from truthwell.ready import always_false
from truthwell.ready import anything
from truthwell.ready import at_most
from truthwell.ready import at_turns
from truthwell.ready import false_yes
from truthwell.ready import named_tells
from truthwell.ready import never_running
from truthwell.ready import one_in
from truthwell.ready import truthful
from truthwell.rules import Rule
from truthwell.stocks import Stock
from truthwell.wishes import Wish

from bends import bends
from bends import listed
from bends import some_bends
from helpers import BIG
from helpers import Checks
from helpers import Draws
from helpers import ODD
from helpers import end_of
from helpers import is_int
from helpers import is_ok
from helpers import made_cases
from helpers import pasts_to
from helpers import triples_of
from plain import fades
from plain import freer_pairs
from plain import is_past
from plain import reached_from


def of_rule(rule, firsts):
    return Case(Stock(len(firsts), rule.answerers, rule.heaps, []), rule, firsts, Wish.left(1))


def closed(case):
    """The least set, by the words of the document."""
    rule = case.rule
    found = [(s, f) for f in case.firsts for s in reached_from(rule, f)]
    for s, t in found:
        for triple in triples_of(rule):
            pair = (end_of(rule, s, [triple]), end_of(rule, t, [triple]))
            if pair[0] is not None and pair not in found:
                found.append(pair)
    return tuple(sorted(set(found)))


def first_growing(case):
    """The least thing, and the first past that leads it to what is not no freer, by trying them all."""
    pairs = freer_pairs(case.rule, case.rule)
    thing = fades(case).index(False)
    first = case.firsts[thing]
    past = next(past for past in pasts_to(case.rule, 4) if is_ok(case.rule, first, past)
                and (end_of(case.rule, first, past), first) not in pairs)
    stand = end_of(case.rule, first, past)
    more = next(more for more in pasts_to(case.rule, 6) if is_ok(case.rule, stand, more) and not is_ok(case.rule, first, more))
    return thing, past, more


def right_fading(case, pairs):
    rule = case.rule
    if not isinstance(pairs, tuple):
        return False
    for pair in pairs:
        if not isinstance(pair, tuple) or len(pair) != 2 or not all(is_int(s) and 0 <= s < len(rule) for s in pair):
            return False
    if len(set(pairs)) != len(pairs) or not all((s, f) in pairs for f in case.firsts for s in reached_from(rule, f)):
        return False
    for s, t in pairs:
        for triple in triples_of(rule):
            left, right = end_of(rule, s, [triple]), end_of(rule, t, [triple])
            if left is not None and (left, right) not in pairs:
                return False
    return True


def right_grows(case, thing, past, more):
    if not is_int(thing) or not 0 <= thing < case.things or not is_past(case.rule, past) or not is_past(case.rule, more):
        return False
    first = case.firsts[thing]
    if not is_ok(case.rule, first, past):
        return False
    return is_ok(case.rule, end_of(case.rule, first, past), more) and not is_ok(case.rule, first, more)


class FadingTest(Checks, unittest.TestCase):
    def test_against_words(self):
        seen = set()
        for case in made_cases(211, 60, 3, 1, 2) + made_cases(212, 10, 3, 2, 2, 2) + made_cases(213, 10, 2, 1, 3, 2):
            found = fading(case)
            seen.add(type(found))
            self.assertIs(bool(found), all(fades(case)))
            self.assertIs(shows_fading(case, found), True)
            if found:
                self.assertEqual(found, Fading(closed(case)))
            else:
                self.assertEqual(found, Grows(*first_growing(case)))
        self.assertEqual(len(seen), 2)

    def test_ready(self):
        for rule in (truthful(), always_false(), anything(), at_most(0), at_most(5), never_running(), one_in(1), one_in(4),
                     after_truths(0), false_yes(2), truthful(2, 3), one_in(3, 2, 3), named_tells(2), named_tells(3), at_turns(1)):
            self.assertIsInstance(fading(of_rule(rule, [0, 0])), Fading)
        for rule in (after_truths(1), after_truths(7), at_turns(2), at_turns(5)):
            found = fading(of_rule(rule, [0, 0]))
            self.assertIsInstance(found, Grows)
            self.assertEqual(found.thing, 0)
        self.assertEqual(fading(of_rule(never_running(), [0, 1, 1])).parts, (1, ((0, 0, 0),), ((0, 0, 1),)))
        self.assertEqual(fading(of_rule(after_truths(2), [2, 1, 0])).parts, (1, ((0, 0, 0),), ((0, 0, 1),)))
        self.assertEqual(fading(of_rule(after_truths(2), [2, 0])).parts, (1, ((0, 0, 0),), ((0, 0, 0), (0, 0, 1))))
        self.assertIsInstance(fading(of_rule(at_most(3), [0, 3, 1, 2])), Fading)

    def test_great(self):
        self.assertEqual(len(fading(of_rule(at_most(63), [0] * 16)).pairs), 64 * 65 // 2)
        self.assertEqual(len(fading(of_rule(one_in(64), [0])).more if not fading(of_rule(one_in(64), [0])) else ()), 0)
        found = fading(of_rule(after_truths(63), [0] * 3))
        self.assertEqual([found.thing, len(found.past), len(found.more)], [0, 1, 63])

    def test_papers(self):
        self.assertEqual(Fading(pairs=[[0, 0]]).pairs, ((0, 0),))
        self.assertEqual(Grows(thing=1, past=[], more=[[0]]).parts, (1, (), ((0,),)))
        self.assertEqual([Fading(()).word, Grows(0, 0, 0).word, bool(Fading(0)), bool(Grows(0, 0, 0))], ["fading", "grows", True, False])
        self.assertTrue(isinstance(Grows(0, 0, 0), Denial) and isinstance(Fading(0), Paper) and not isinstance(Fading(0), Denial))

    def test_errors(self):
        self.odd(fading, lambda value: BadCase("case"))
        self.odd(lambda value: shows_fading(value, None), lambda value: BadCase("case"))


class Shows(Checks, unittest.TestCase):
    def test_bends(self):
        draws = Draws(214)
        for case in made_cases(215, 25, 3, 1, 2) + [of_rule(never_running(), [0, 1]), of_rule(at_most(2), [1, 0])]:
            found = fading(case)
            self.assertIs(shows_fading(case, type(found)(*listed(found.parts))), True)
            if found:
                for bent in some_bends(draws, found.pairs, 60):
                    self.assertIs(shows_fading(case, Fading(bent)), right_fading(case, bent), bent)
            else:
                for bent in some_bends(draws, found.parts, 80):
                    if isinstance(bent, tuple) and len(bent) == 3:
                        self.assertIs(shows_fading(case, Grows(*bent)), right_grows(case, *bent), bent)

    def test_more_pairs_and_orders(self):
        case = of_rule(at_most(2), [1])
        self.assertEqual(fading(case).pairs, ((1, 1), (2, 1), (2, 2)))
        self.assertIs(shows_fading(case, Fading([[2, 2], [1, 1], [2, 1], [1, 0], [0, 0], [2, 0]])), True)
        self.assertIs(shows_fading(case, Fading([(2, 2), (1, 1), (1, 0)])), False)
        self.assertIs(shows_fading(case, Fading([(1, 1), (2, 1)])), False)
        self.assertIs(shows_fading(case, Fading([(1, 1), (2, 1), (2, 2), (1, 1)])), False)
        self.assertIs(shows_fading(case, Fading([])), False)
        everything = [pair for pair in product(range(3), repeat=2) if pair[0] >= pair[1]]
        self.assertIs(shows_fading(case, Fading(everything)), True)
        self.assertIs(shows_fading(case, Fading(everything + [(0, 1)])), False)

    def test_any_pasts(self):
        case = of_rule(never_running(), [0, 1])
        self.assertIs(shows_fading(case, Grows(1, [(0, 1, 1), (0, 0, 0)], [(0, 1, 0), (0, 0, 0), (0, 0, 1)])), True)
        self.assertIs(shows_fading(case, Grows(True, [(0, 0, 0)], [(0, 0, 1)])), False)
        self.assertIs(shows_fading(case, Grows(1, [], [(0, 0, 1)])), False)
        self.assertIs(shows_fading(case, Grows(0, [(0, 0, 0)], [(0, 0, 1)])), False)
        self.assertIs(shows_fading(case, Grows(2, [(0, 0, 0)], [(0, 0, 1)])), False)
        self.assertIs(shows_fading(case, Grows(-1, [(0, 0, 0)], [(0, 0, 1)])), False)

    def test_odd(self):
        case = of_rule(never_running(), [0, 1])
        grows = fading(case)
        for value in ODD:
            for paper in (value, Fading(value), Grows(value, grows.past, grows.more), Grows(1, value, grows.more), Grows(1, grows.past, value),
                          NoFreer(value), Freer(value)):
                wanted = isinstance(paper, Grows) and right_grows(case, *paper.parts)
                self.assertIs(shows_fading(case, paper), wanted)
        for other in (Denial("grows", *grows.parts), Paper("grows", *grows.parts), Fading(grows.parts), grows.parts, NoFreer([(0, 0), (1, 0), (1, 1)])):
            self.assertIs(shows_fading(case, other), False)
        self.assertIs(shows_fading(case, Grows(BIG, grows.past, grows.more)), False)
        self.assertIs(shows_fading(case=case, value=grows), True)

    def test_barred_first(self):
        rule = Rule(1, 2, [[0, 1, 1, 0], [0, None, None, 0]])
        self.assertIs(shows_fading(of_rule(rule, [0, 1]), Grows(1, [(0, 0, 1)], [(0, 0, 1)])), False)


if __name__ == "__main__":
    unittest.main()
