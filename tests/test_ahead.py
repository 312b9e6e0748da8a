"""truthwell.ahead, truthwell.check_ahead."""

import time
import unittest
from itertools import product

from truthwell.ahead import Enough
from truthwell.ahead import Layers
from truthwell.ahead import Shared
from truthwell.ahead import ShadowRing
from truthwell.ahead import ahead
from truthwell.ahead import fewest_ahead
from truthwell.ahead import never_ahead
from truthwell.cases import Case
from truthwell.changed import narrowed
from truthwell.changed import with_wish
from truthwell.check_ahead import shows_enough
from truthwell.check_ahead import shows_layers
from truthwell.check_ahead import shows_shadow_ring
from truthwell.check_ahead import shows_shared
from truthwell.depths import depth_of
from truthwell.errors import BadCase
from truthwell.errors import BadList
from truthwell.errors import BadNumber
from truthwell.errors import NoQuestion
from truthwell.errors import TooMany
from truthwell.order import order_free
from truthwell.papers import Denial
from truthwell.papers import Paper
from truthwell.questions import Question
from truthwell.ready import after_truths
from truthwell.ready import anything
from truthwell.ready import at_most
from truthwell.ready import named_tells
from truthwell.ready import never_running
from truthwell.ready import one_in
from truthwell.ready import truthful
from truthwell.rules import Rule
from truthwell.spelled import parted_at
from truthwell.stocks import Stock
from truthwell.two_cases import two_asked
from truthwell.wishes import Wish

from bends import listed
from bends import some_bends
from helpers import BIG
from helpers import Checks
from helpers import Draws
from helpers import ODD
from helpers import is_int
from helpers import made_cases
from plain import all_hearings
from plain import bare
from plain import fades
from plain import first_shadow_of
from plain import freer_pairs
from plain import groups_of
from plain import inside
from plain import is_enough
from plain import numbers_of
from plain import open_by
from plain import right_enough
from plain import right_layers
from plain import right_shadow_ring
from plain import right_shared
from plain import shadow_on
from plain import table_of
from test_shadows import stay_case

PAIR = Case.alike(Stock.singles(2), at_most(1), Wish.each(2))
NAMED = Case.alike(Stock(2, 2, 2, [Question(0, [0, 1]), Question(1, [0, 1])]), named_tells(), Wish.each(2))
RUNS = Case.alike(Stock.singles(2), never_running(), Wish.each(2))
STANDINGS = TooMany("standings", 4096)
SHADOWS = TooMany("shadows", 4096)
HEARINGS = TooMany("hearings", 1024)


def cases():
    return made_cases(301, 60, 3, 2, 2, 2, 3) + made_cases(302, 15, 3, 1, 3, 2, 2) + [PAIR, NAMED, RUNS] + ready_cases()


def ready_cases():
    found = []
    for rule in (truthful(), at_most(1), one_in(3), never_running(), after_truths(2), anything()):
        found += [Case.alike(stock, rule, Wish.each(stock.things)) for stock in (Stock.singles(2), Stock.splits(3), Stock.singles(3))]
        found.append(Case.alike(Stock.singles(3), rule, Wish.left(2)))
    return found


def all_lists(case, most):
    """Shorter ones first, then by tuples."""
    for length in range(most + 1):
        yield from product(numbers_of(case), repeat=length)


def least_ones(shadows):
    return tuple(sorted(one for one in set(shadows) if not any(other != one and inside(other, one) for other in set(shadows))))


def layers_by_words(case, most):
    layers = [(first_shadow_of(case),)]
    for _ in range(most):
        layers.append(least_ones([shadow_on(case, shadow, number) for shadow in layers[-1] for number in numbers_of(case)]))
    return tuple(layers)


def shadows_by_words(case, most=400):
    """All met ones, and whether one of them is bare; None if there are more than most."""
    met = [first_shadow_of(case)]
    for shadow in met:
        for number in numbers_of(case):
            new = shadow_on(case, shadow, number)
            if new not in met:
                met.append(new)
        if len(met) > most:
            return None
    return met


class Ahead(Checks, unittest.TestCase):
    def test_against_hearings(self):
        seen = {True: 0, False: 0}
        for case in cases():
            draws = Draws(303)
            lists = list(all_lists(case, 2)) + [[draws.below(len(case.stock)) for _ in range(3)] for _ in range(4 if len(case.stock) else 0)]
            for numbers in lists[:14]:
                found = ahead(case, numbers)
                seen[bool(found)] += 1
                self.assertIs(bool(found), is_enough(case, tuple(numbers)))
                if found:
                    self.assertEqual(found, Enough(numbers, table_of(case, numbers)))
                    self.assertTrue(shows_enough(case, found) and shows_enough(case, found, len(numbers)))
                else:
                    group = [group for group in groups_of(case) if self.shared(case, numbers, group)][0]
                    self.assertEqual(found, Shared(group, self.shared(case, numbers, group)[0]))
                    self.assertTrue(shows_shared(case, numbers, found))
        self.assertGreater(min(seen.values()), 60)

    def shared(self, case, numbers, group):
        return [hearing for hearing in all_hearings(case, numbers) if set(group) <= set(open_by(case, numbers, hearing))]

    def test_long_lists(self):
        begun = time.time()
        sixteen = Case.alike(Stock.singles(16), at_most(2), Wish.each(16))
        self.assertEqual(ahead(sixteen, list(range(16)) * 2), Shared((0, 1), (0,) * 32))
        self.raises(HEARINGS, ahead, sixteen, list(range(16)) * 3)
        found = ahead(RUNS, [0, 1] * 1500)
        self.assertEqual([found.group, len(found.hearing)], [(0, 1), 3000])
        found = ahead(Case.alike(Stock.splits(2), at_most(1), Wish.each(2)), [1] * 300)
        self.assertEqual([len(found.table), len(found.numbers)], [602, 300])
        self.assertLess(time.time() - begun, 15)

    def test_many_hearings(self):
        """A list that is not enough is told however many hearings it has."""
        free = Case.alike(Stock.splits(2), anything(), Wish.each(2))
        self.assertEqual(ahead(free, [1] * 40), Shared((0, 1), (0,) * 40))
        one = Case.alike(Stock.splits(2), anything(), Wish.left(2))
        self.assertEqual(len(ahead(one, [1] * 10).table), 1024)
        self.raises(HEARINGS, ahead, one, [1] * 11)
        table = [(hearing, (0, 1)) for hearing in all_hearings(one, [1] * 11)]
        self.assertTrue(shows_enough(one, Enough([1] * 11, table)))
        self.assertFalse(shows_enough(one, Enough([1] * 11, table[1:])))
        lies = Case.alike(Stock(2, 1, 2, [Question(0, [0, 1])]), at_most(10), Wish.each(2))
        self.raises(HEARINGS, ahead, lies, [0] * 21)
        self.assertEqual(ahead(lies, [0] * 20), Shared((0, 1), (0,) * 10 + (1,) * 10))
        three = Case.alike(Stock(1, 1, 3, [Question(0, [0])]), anything(1, 3), Wish.each(1))
        self.assertEqual(len(ahead(three, [0] * 6).table), 729)
        self.raises(HEARINGS, ahead, three, [0] * 7)

    def test_just_1024(self):
        """1,024 hearings of two things: 512 of each, which begin with another heap."""
        rows = [[1, None, None, 1], [1, 1, 1, 1]]
        case = Case.alike(Stock(2, 1, 2, [Question(0, [0, 1])]), Rule(1, 2, rows), Wish.each(2))
        self.assertEqual(len(ahead(case, [0] * 10).table), 1024)
        self.raises(HEARINGS, ahead, case, [0] * 11)

    def test_too_many_standings(self):
        begun = time.time()
        wide = Case.alike(Stock.singles(16), truthful(), Wish.left(7))
        free = Case.alike(Stock.singles(16), at_most(5), Wish.left(3))
        for call in (lambda: ahead(wide, []), lambda: ahead(wide, [0]), lambda: ahead(free, [0, 0]), lambda: fewest_ahead(wide, 0), lambda: never_ahead(wide),
                     lambda: fewest_ahead(free, 9), lambda: never_ahead(free)):
            self.raises(STANDINGS, call)
        self.raises(NoQuestion(16), ahead, wide, [16])
        self.raises(BadNumber("most"), fewest_ahead, wide, 10)
        self.assertLess(time.time() - begun, 20)

    def test_standings_before_bare(self):
        """Too many on the way are told, also if the list is enough, or not, behind them."""
        rows = [[s // 2 * 2, s // 2 * 2 + 1, None if s > 1 else 0, 0] for s in range(4)]
        case = Case(Stock(3, 1, 2, [Question(0, [0, 0, 0]), Question(0, [0, 1, 1])]), Rule(1, 2, rows), [2, 2, 2], Wish.each(3))
        self.assertEqual(bool(ahead(case, [0])), False)
        self.assertIs(shows_shared(case, [0], ahead(case, [0])), True)

    def test_errors(self):
        self.odd(lambda value: ahead(value, None), lambda value: BadCase("case"))
        self.odd(lambda value: fewest_ahead(value, None), lambda value: BadCase("case"))
        self.odd(never_ahead, lambda value: BadCase("case"))
        self.odd(lambda value: ahead(PAIR, value), lambda value: BadList("numbers"), lambda value: isinstance(value, (list, tuple)))
        self.odd_stand(lambda value: ahead(PAIR, [0, value, 9]), 2, NoQuestion)
        for value in ODD + [10]:
            if not (is_int(value) and 0 <= value <= 9):
                self.raises(BadNumber("most"), fewest_ahead, PAIR, value)
        self.assertEqual(ahead(case=PAIR, numbers=(0, 1)).parts, ((0, 1), (0, 0)))
        self.assertEqual([fewest_ahead(case=PAIR, most=9).numbers, never_ahead(case=PAIR)], [(0, 0, 0), None])

    def test_not_kept(self):
        numbers = [0, 0, 1]
        found = ahead(PAIR, numbers)
        numbers.append(1)
        self.assertEqual([found.numbers, len(found.table)], [(0, 0, 1), 8])


class Fewest(Checks, unittest.TestCase):
    def test_against_lists(self):
        seen = set()
        for case in cases():
            top = 3 if len(case.stock) < 4 else 2
            fitting = [numbers for numbers in all_lists(case, top) if is_enough(case, numbers)]
            for most in range(top + 1):
                found = fewest_ahead(case, most)
                seen.add((bool(found), most))
                if fitting and len(fitting[0]) <= most:
                    self.assertEqual(found, ahead(case, fitting[0]))
                    self.assertTrue(shows_enough(case, found, most))
                else:
                    self.assertEqual(found, Layers(layers_by_words(case, most)))
                    self.assertTrue(right_layers(case, most, found.layers))
                    self.assertTrue(shows_layers(case, most, found))
        self.assertEqual(len(seen), 8)

    def test_never(self):
        seen = set()
        for case in cases():
            met = shadows_by_words(case)
            if met is None:
                continue
            found = never_ahead(case)
            seen.add(found is None)
            if any(bare(shadow) for shadow in met):
                self.assertIsNone(found)
            else:
                self.assertEqual(found, ShadowRing(least_ones(met)))
                self.assertTrue(right_shadow_ring(case, found.shadows))
                self.assertTrue(shows_shadow_ring(case, found))
        self.assertEqual(len(seen), 2)

    def test_edges(self):
        none = Case.alike(Stock.singles(2), anything(), Wish.left(2))
        self.assertEqual([fewest_ahead(none, 0).parts, never_ahead(none)], [((), (((), (0, 1)),)), None])
        empty = Case.alike(Stock(2, 1, 2, []), truthful(), Wish.each(2))
        first = (((0, 0),),)
        self.assertEqual([fewest_ahead(empty, 2).layers, never_ahead(empty).shadows, ahead(empty, []).parts], [((first,), (), ()), (first,), ((0, 1), ())])
        self.assertTrue(shows_layers(empty, 2, fewest_ahead(empty, 2)) and shows_shadow_ring(empty, never_ahead(empty)))
        nine = Case.alike(Stock(2, 1, 2, [Question(0, [0, 1])]), at_most(4), Wish.each(2))
        self.assertEqual([fewest_ahead(nine, 9).numbers, len(fewest_ahead(nine, 8).layers)], [(0,) * 9, 9])

    def round_case(self, one, other):
        """Thing 0 and thing 1 go round by each question, in rings of so many stands, whatever is told."""
        rows = [[s + 1 if s + 1 < one else 0] * 2 + [s + 1 if s + 1 < other else 0] * 2 for s in range(one)]
        return Case(Stock(2, 1, 2, [Question(0, [0, 1])]), Rule(1, 2, rows), [0, 0], Wish.each(2))

    def test_many_shadows(self):
        """A shadow for each number of questions, until they come round."""
        begun = time.time()
        self.assertEqual([len(never_ahead(self.round_case(64, other)).shadows) for other in (63, 61, 1)], [64 * 63, 64 * 61, 64])
        rows = [[s + 1 if s + 1 < 64 else 0] * 3 + [s + 1 if s + 1 < 63 else 0] * 3 + [s + 1 if s + 1 < 61 else 0] * 3 for s in range(64)]
        self.raises(SHADOWS, never_ahead, Case(Stock(3, 1, 3, [Question(0, [0, 1, 2])]), Rule(1, 3, rows), [0, 0, 0], Wish.each(3)))
        self.assertLess(time.time() - begun, 20)

    def test_just_4096(self):
        """A ring of 4,096 shadows, and one of 4,097 (a step ahead of the ring)."""
        rows = [[s + 1 if s + 1 < 64 else 0] * 2 + [s] * 2 for s in range(64)]
        stock = Stock(2, 1, 2, [Question(0, [0, 1]), Question(0, [1, 0])])
        case = Case(stock, Rule(1, 2, rows), [0, 0], Wish.each(2))
        ring = never_ahead(case)
        self.assertEqual(len(ring.shadows), 4096)
        self.assertTrue(shows_shadow_ring(case, ShadowRing(ring.shadows[::-1])))
        self.assertFalse(shows_shadow_ring(case, ShadowRing(ring.shadows[1:])))
        trio = Case(Stock(3, 1, 2, [Question(0, [0, 1, 1]), Question(0, [1, 0, 1]), Question(0, [1, 1, 0])]),
                    Rule(1, 2, [[s + 1 if s + 1 < 16 else 0] * 2 + [s] * 2 for s in range(16)]), [0, 0, 0], Wish.each(3))
        self.assertEqual(len(never_ahead(trio).shadows), 4096)
        more = Case(trio.stock, Rule(1, 2, [[s + 1 if s + 1 < 17 else 0] * 2 + [s] * 2 for s in range(17)]), [0, 0, 0], Wish.each(3))
        self.raises(SHADOWS, never_ahead, more)

    def test_most_bounds_what_is_met(self):
        """No further ones are met from those that were met by most questions, nor behind a bare one."""
        begun = time.time()
        stock = Stock(3, 1, 2, [Question(0, [0, 1, 1]), Question(0, [1, 0, 1]), Question(0, [1, 1, 0])])
        many = Case(stock, Rule(1, 2, [[s + 1 if s + 1 < 64 else 0] * 2 + [s] * 2 for s in range(64)]), [0, 0, 0], Wish.each(3))
        self.assertEqual([len(layer) for layer in fewest_ahead(many, 9).layers], [(k + 1) * (k + 2) // 2 for k in range(10)])
        self.raises(SHADOWS, never_ahead, many)
        quick = Case(Stock(3, 1, 2, list(stock.questions) + [Question(0, [0, 0, 1])]), at_most(63), [0, 0, 0], Wish.each(3))
        self.assertIsInstance(fewest_ahead(quick, 9), Layers)
        self.raises(SHADOWS, never_ahead, quick)
        bare_first = Case.alike(Stock.splits(3), truthful(), Wish.each(3))
        self.assertEqual(fewest_ahead(bare_first, 9).numbers, (1, 2))
        self.assertLess(time.time() - begun, 15)


class Facts(Checks, unittest.TestCase):
    def test_stays_enough(self):
        draws = Draws(304)
        many = 0
        for case in cases():
            for numbers in list(all_lists(case, 2))[:10]:
                if not ahead(case, numbers):
                    continue
                many += 1
                for number in numbers_of(case):
                    self.assertTrue(ahead(case, numbers + (number,)))
                depth = depth_of(case)
                self.assertTrue(depth is not None and depth <= len(numbers))
                self.assertTrue(is_enough(with_wish(case, Wish.left(case.things)), numbers))
                if case.wish.classes is not None:
                    merged = [min(told, 1) for told in case.wish.classes]
                    self.assertTrue(ahead(with_wish(case, Wish.of(merged)), numbers))
                elif case.wish.most < 16:
                    self.assertTrue(ahead(with_wish(case, Wish.left(case.wish.most + 1)), numbers))
                some = sorted({draws.below(case.things) for _ in range(2)})
                part = narrowed(case, some)
                if len(part.stock) == len(case.stock):
                    self.assertTrue(ahead(part, numbers))
        self.assertGreater(many, 40)

    def test_order_means_nothing(self):
        many = 0
        for case in cases():
            if all(order_free(case.rule, first) for first in case.firsts):
                for numbers in all_lists(case, 3 if len(case.stock) < 3 else 2):
                    many += 1
                    self.assertEqual(bool(ahead(case, numbers)), bool(ahead(case, tuple(sorted(numbers)))))
        self.assertGreater(many, 100)

    def test_spellings(self):
        """With so many lies each, spellings must differ at as many places as both may lie, and one."""
        draws = Draws(305)
        for _ in range(60):
            things = 2 + draws.below(3)
            stock = Stock.splits(things) if draws.below(2) else Stock.singles(things)
            firsts = [draws.below(3) for _ in range(things)]
            case = Case(stock, at_most(2), firsts, Wish.each(things))
            numbers = [draws.below(len(stock)) for _ in range(draws.below(7))]
            wanted = all(places >= (2 - firsts[x]) + (2 - firsts[y]) + 1 for (x, y), places in parted_at(case, numbers))
            self.assertIs(bool(ahead(case, numbers)), wanted)

    def test_sixteen_things_by_seven_questions(self):
        rows = [[(x >> k & 1) for x in range(16)] for k in range(4)]
        rows += [[(x & 1) ^ (x >> 1 & 1) ^ (x >> 2 & 1) for x in range(16)], [(x & 1) ^ (x >> 1 & 1) ^ (x >> 3 & 1) for x in range(16)],
                 [(x & 1) ^ (x >> 2 & 1) ^ (x >> 3 & 1) for x in range(16)]]
        case = Case.alike(Stock(16, 1, 2, [Question(0, row) for row in rows]), at_most(1), Wish.each(16))
        found = ahead(case, list(range(7)))
        self.assertTrue(found)
        self.assertEqual([len(found.table), {len(things) for hearing, things in found.table}], [128, {1}])
        self.assertTrue(shows_enough(case, found, 7))
        self.assertFalse(ahead(case, [0, 1, 2, 3, 4, 5]))

    def test_fading(self):
        """Some list is enough exactly if for the things of each group alone some list is."""
        many = 0
        for case in cases():
            if all(fades(case)) and shadows_by_words(case) is not None:
                alone = [never_ahead(narrowed(case, group)) is None for group in groups_of(case)]
                self.assertEqual(never_ahead(case) is None, all(alone))
                many += 1
        self.assertGreater(many, 30)

    def test_lists_behind_one_another(self):
        """In a case that fades, lists that are enough for each group are together enough for all."""
        many = 0
        for case in cases():
            alone = [self.alone(case, group) for group in groups_of(case)]
            if all(fades(case)) and all(alone) and sum(len(found.numbers) for found in alone) < 11:
                try:
                    self.assertTrue(ahead(case, [number for found in alone for number in found.numbers]))
                    self.assertTrue(ahead(case, [number for found in alone[::-1] for number in found.numbers]))
                except TooMany as error:
                    self.assertEqual(error.what, "hearings")
                many += 1
        self.assertGreater(many, 30)

    def alone(self, case, group):
        """The fewest questions for the things of a group alone, if some are enough."""
        things = [x for x in range(case.things) if x in group]
        stock = [Question(q.who, [q.heaps[x] for x in things]) for q in case.stock]
        part = narrowed(case, things)
        found = fewest_ahead(part, 6)
        if found:
            # Of questions that are alike about these things the first one stands for all.
            return Enough([stock.index(part.stock[number]) for number in found.numbers], found.table)
        return found

    def test_less_free_first_stands(self):
        draws = Draws(310)
        many = 0
        for case in cases():
            pairs = freer_pairs(case.rule, case.rule)
            firsts = [draws.pick([s for s in range(len(case.rule)) if (s, first) in pairs]) for first in case.firsts]
            other = Case(case.stock, case.rule, firsts, case.wish)
            for numbers in list(all_lists(case, 3))[:40]:
                if ahead(case, numbers):
                    many += firsts != list(case.firsts)
                    self.assertTrue(ahead(other, numbers))
        self.assertGreater(many, 10)

    def test_two_cases(self):
        """Of two cases, each with answerers of its own, the fewest are just the sum."""
        small = [case for case in cases() if case.wish.classes is not None and case.things <= 3 and case.heaps == 2 and case.answerers == 1 and len(case.rule) <= 3]
        many = 0
        for one, other in list(zip(small, small[1:])) + list(zip(small, small[5:])):
            if one.things * other.things > 9 or shadows_by_words(one, 60) is None or shadows_by_words(other, 60) is None:
                continue
            joined = two_asked(one, other)
            left, right = fewest_ahead(one, 3), fewest_ahead(other, 3)
            if left and right and len(left.numbers) + len(right.numbers) <= 4:
                found = fewest_ahead(joined, 4)
                self.assertEqual(len(found.numbers), len(left.numbers) + len(right.numbers))
                many += 1
            numbers = [0] * min(1, len(joined.stock)) + [len(joined.stock) - 1] * min(1, len(joined.stock))
            ours = [number for number in numbers if number < len(one.stock)]
            theirs = [number - len(one.stock) for number in numbers if number >= len(one.stock)]
            self.assertIs(bool(ahead(joined, numbers)), bool(ahead(one, ours)) and bool(ahead(other, theirs)))
        self.assertGreater(many, 10)

    def test_order_may_mean_something(self):
        three = Case.alike(Stock(3, 1, 2, [Question(0, [0, 1, 1]), Question(0, [1, 0, 1]), Question(0, [0, 0, 0])]), after_truths(2), Wish.each(3))
        self.assertTrue(ahead(three, [0, 1]))
        self.assertFalse(ahead(three, [2, 0, 1]))
        self.assertEqual([depth_of(NAMED), bool(never_ahead(NAMED))], [2, False])
        self.assertIsInstance(never_ahead(NAMED), ShadowRing)


class Shows(Checks, unittest.TestCase):
    def test_enough(self):
        draws = Draws(306)
        for case in cases():
            for numbers in list(all_lists(case, 2))[:8]:
                found = ahead(case, numbers)
                table = found.table if found else table_of(case, numbers)
                self.assertIs(shows_enough(case, Enough(listed(numbers), listed(table))), bool(found))
                for bent in some_bends(draws, (tuple(numbers), table), 25):
                    if isinstance(bent, tuple) and len(bent) == 2:
                        self.assertIs(shows_enough(case, Enough(*bent)), right_enough(case, *bent), bent)
                for most in (0, 1, 2, BIG):
                    self.assertIs(shows_enough(case, Enough(numbers, table), most), bool(found) and len(numbers) <= most)

    def test_enough_odd(self):
        right = ahead(PAIR, [0, 0, 1])
        for value in ODD:
            for paper in (value, Enough(value, right.table), Enough(right.numbers, value), Enough(right.numbers, [value]), Enough(value, value)):
                self.assertIs(shows_enough(PAIR, paper), False)
            if value is not None and not (is_int(value) and value >= 0):
                self.raises(BadNumber("most"), shows_enough, PAIR, right, value)
                self.raises(BadNumber("most"), shows_enough, PAIR, None, value)
        for value in (Denial("enough", *right.parts), Paper("enough", *right.parts), right.parts, Shared(*right.parts)):
            self.assertIs(shows_enough(PAIR, value), False)
        self.odd(lambda value: shows_enough(value, right, -1), lambda value: BadCase("case"))
        self.assertIs(shows_enough(case=PAIR, value=right, most=3), True)
        self.assertIs(shows_enough(PAIR, Enough([0] * 5000, [])), False)
        many = Case.alike(Stock.splits(2), anything(), Wish.left(2))
        self.assertIs(shows_enough(many, Enough([1] * 100, [((0,) * 100, (0, 1))])), False)

    def test_shared(self):
        draws = Draws(307)
        for case in cases():
            for numbers in list(all_lists(case, 2))[:8]:
                for group in groups_of(case)[:3]:
                    for hearing in all_hearings(case, numbers)[:5]:
                        self.assertIs(shows_shared(case, numbers, Shared(list(group), list(hearing))), right_shared(case, numbers, group, hearing))
                    for bent in some_bends(draws, (group, all_hearings(case, numbers)[0]), 20):
                        if isinstance(bent, tuple) and len(bent) == 2:
                            self.assertIs(shows_shared(case, list(numbers), Shared(*bent)), right_shared(case, numbers, *bent), bent)

    def test_shared_odd(self):
        for value in ODD:
            for paper in (value, Shared(value, (0, 1)), Shared((0, 1), value), Shared([value], (0, 0)), Shared((0, 1), [0, value])):
                wanted = isinstance(paper, Shared) and right_shared(PAIR, [0, 1], *paper.parts)
                self.assertIs(shows_shared(PAIR, [0, 1], paper), wanted)
        for value in (Denial("shared", (0, 1), (1, 1)), Paper("shared", (0, 1), (1, 1)), ((0, 1), (1, 1)), Enough((0, 1), (1, 1))):
            self.assertIs(shows_shared(PAIR, [0, 1], value), False)
        self.odd(lambda value: shows_shared(value, None, None), lambda value: BadCase("case"))
        self.odd(lambda value: shows_shared(PAIR, value, None), lambda value: BadList("numbers"), lambda value: isinstance(value, (list, tuple)))
        self.odd_stand(lambda value: shows_shared(PAIR, [0, value, 9], None), 2, NoQuestion)
        self.assertIs(shows_shared(case=PAIR, numbers=[], value=Shared((0, 1), ())), True)

    def test_layers(self):
        draws = Draws(308)
        for case in cases():
            for most in (0, 1, 2):
                found = fewest_ahead(case, most)
                if found:
                    continue
                backwards = [layer[::-1] for layer in found.layers]
                self.assertTrue(shows_layers(case, most, Layers(listed(tuple(backwards)))))
                self.assertTrue(shows_layers(case, most, Layers([layer + layer for layer in found.layers])))
                self.assertFalse(shows_layers(case, most + 1, found))
                for bent in some_bends(draws, found.layers, 25):
                    self.assertIs(shows_layers(case, most, Layers(bent)), right_layers(case, most, bent), bent)

    def test_layers_that_are_enough(self):
        case = Case.alike(Stock.splits(2), truthful(), Wish.each(2))
        self.assertFalse(shows_layers(case, 1, Layers([[[[[0, 0]]]], [[[[0, 0]]]]])))
        self.assertTrue(shows_layers(case, 0, Layers([[[[[0, 0]]]]])))
        self.assertFalse(shows_layers(case, 0, Layers([[[[]]]])))
        self.assertFalse(shows_layers(case, 0, Layers([[]])))

    def test_ring(self):
        draws = Draws(309)
        for case in cases():
            if shadows_by_words(case, 100) is None:
                continue
            found = never_ahead(case)
            if found is not None:
                self.assertTrue(shows_shadow_ring(case, ShadowRing(listed(found.shadows[::-1]))))
                self.assertTrue(shows_shadow_ring(case, ShadowRing(found.shadows + found.shadows[:1])))
                for bent in some_bends(draws, found.shadows, 30):
                    self.assertIs(shows_shadow_ring(case, ShadowRing(bent)), right_shadow_ring(case, bent), bent)

    def test_layers_and_ring_odd(self):
        layers, ring = fewest_ahead(PAIR, 2), never_ahead(NAMED)
        for value in ODD:
            for paper in (value, Layers(value), Layers([value]), Layers([[value]]), Layers(layers.layers[:2] + (value,))):
                self.assertIs(shows_layers(PAIR, 2, paper), False)
                self.assertIs(shows_layers(PAIR, 0, paper), isinstance(paper, Layers) and right_layers(PAIR, 0, paper.layers))
            for paper in (value, ShadowRing(value), ShadowRing([value]), ShadowRing(ring.shadows + (value,))):
                self.assertIs(shows_shadow_ring(NAMED, paper), False)
            if not (is_int(value) and value >= 0):
                self.raises(BadNumber("most"), shows_layers, PAIR, value, layers)
                self.raises(BadNumber("most"), shows_layers, PAIR, value, None)
        for value in (Denial("layers", layers.layers), ShadowRing(layers.layers), layers.layers, Paper("layers", layers.layers)):
            self.assertIs(shows_layers(PAIR, 2, value), False)
        for value in (Denial("shadowring", ring.shadows), Layers(ring.shadows), ring.shadows):
            self.assertIs(shows_shadow_ring(NAMED, value), False)
        self.odd(lambda value: shows_layers(value, None, None), lambda value: BadCase("case"))
        self.odd(lambda value: shows_shadow_ring(value, None), lambda value: BadCase("case"))
        self.assertIs(shows_layers(case=PAIR, most=2, value=layers) and shows_shadow_ring(case=NAMED, value=ring), True)
        self.assertIs(shows_layers(PAIR, BIG, layers), False)

    def test_never_too_many(self):
        full = stay_case(3, 64, Wish.each(3))
        everything = list(product(range(64), repeat=2))
        self.assertIs(shows_shadow_ring(full, ShadowRing([[everything, everything, everything]])), False)
        self.assertIs(shows_shadow_ring(full, ShadowRing([[[(0, 0)], [], []], [everything, everything, []]])), True)
        wide = Case.alike(Stock.singles(16), truthful(), Wish.left(7))
        self.assertIs(shows_layers(wide, 0, Layers([[[[(0,) * 8]] + [[]] * 12869]])), True)

    def test_papers(self):
        self.assertEqual([Enough(numbers=[0], table=[]).parts, Shared(group=[0], hearing=[1]).parts, Layers(layers=[[]]).layers, ShadowRing(shadows=[]).shadows],
                         [((0,), ()), ((0,), (1,)), ((),), ()])
        self.assertEqual([paper.word for paper in (Enough(0, 0), Shared(0, 0), Layers(0), ShadowRing(0))], ["enough", "shared", "layers", "shadowring"])
        self.assertEqual([bool(paper) for paper in (Enough(0, 0), Shared(0, 0), Layers(0), ShadowRing(0))], [True, False, False, False])


if __name__ == "__main__":
    unittest.main()
