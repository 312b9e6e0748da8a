"""The facts about depths: of cases made of others, of freer situations, of what stands for what."""

import unittest
from itertools import product

from truthwell.cases import Case
from truthwell.changed import asked_of
from truthwell.changed import least_case
from truthwell.changed import narrowed
from truthwell.changed import picked
from truthwell.changed import renamed
from truthwell.changed import turned
from truthwell.changed import with_wish
from truthwell.depths import depth_of
from truthwell.depths import depths
from truthwell.depths import find_plan
from truthwell.depths import worths
from truthwell.errors import TooMany
from truthwell.errors import Twice
from truthwell.fading import fading
from truthwell.freer_situations import is_no_freer
from truthwell.joined import either
from truthwell.pair_plans import group_depths
from truthwell.questions import Question
from truthwell.ready import always_false
from truthwell.ready import at_most
from truthwell.ready import truthful
from truthwell.situations import after
from truthwell.situations import can_come
from truthwell.situations import is_settled
from truthwell.stocks import Stock
from truthwell.twins import never_told
from truthwell.twins import untwinned
from truthwell.two_cases import one_asked
from truthwell.two_cases import two_asked
from truthwell.wishes import Wish

from helpers import Draws
from helpers import made_cases
from plain import all_situations
from test_depths import ready_cases
from test_weights import even_cases


def at_most_as_deep(one, other):
    """Whether a depth is no greater than another one, None being greater than all."""
    return other is None or (one is not None and one <= other)


class Changed(unittest.TestCase):
    def cases(self):
        return made_cases(331, 80) + ready_cases()[::2]

    def test_renamed(self):
        draws = Draws(332)
        for case in self.cases():
            depth = depth_of(case)
            order = self.shuffled(draws, case.things)
            self.assertEqual(depth_of(renamed(case, order)), depth)
            self.assertEqual(depth_of(asked_of(case, self.shuffled(draws, case.answerers))), depth)
            self.assertEqual(depth_of(least_case(case)), depth)

    def shuffled(self, draws, many):
        left = list(range(many))
        return [left.pop(draws.below(len(left))) for _ in range(many)]

    def test_turned(self):
        draws = Draws(333)
        many = 0
        for case in even_cases(334, 60):
            number = draws.below(len(case.stock))
            try:
                other = turned(case, number, self.shuffled(draws, case.heaps))
            except Twice:
                continue
            many += 1
            self.assertEqual(depth_of(other), depth_of(case))
        self.assertGreater(many, 30)

    def test_never_grows(self):
        draws = Draws(335)
        for case in self.cases():
            depth = depth_of(case)
            some = sorted({draws.below(case.things) for _ in range(2)})
            self.assertTrue(at_most_as_deep(depth_of(narrowed(case, some)), depth))
            some = [number for number in range(len(case.stock)) if draws.below(2)]
            self.assertTrue(at_most_as_deep(depth, depth_of(picked(case, some))))
            if case.wish.classes is None:
                wish = Wish.left(case.wish.most + 1)
            else:
                wish = Wish.of([min(told, 1) for told in case.wish.classes])
            self.assertTrue(at_most_as_deep(depth_of(with_wish(case, wish)), depth))

    def test_twins(self):
        many = 0
        for case in made_cases(336, 150, 4, 1, 2, 2, 2):
            if case.wish.classes is None:
                continue
            other = untwinned(case)
            many += other.things < case.things
            self.assertEqual(depth_of(other), depth_of(case))
            for x, y in never_told(case):
                self.assertIsNone(dict(group_depths(case))[(x, y)])
                self.assertIsNone(depth_of(case))
        self.assertGreater(many, 10)


class TwoCases(unittest.TestCase):
    def pairs(self):
        some = [case for case in made_cases(337, 160, 3, 2, 2, 2, 2) + ready_cases() if case.wish.classes is not None and len(case.rule) < 5]
        return list(zip(some, some[1:])) + list(zip(some, some[4:]))

    def test_each_its_own(self):
        numbers = set()
        for one, other in self.pairs():
            try:
                found = depth_of(two_asked(one, other))
            except TooMany:
                continue
            left, right = depth_of(one), depth_of(other)
            wanted = None if left is None or right is None else left + right
            numbers.add(wanted)
            self.assertEqual(found, wanted)
        self.assertTrue({None, 0, 1, 2, 3, 4} <= numbers)

    def test_one_rule(self):
        many = 0
        some = [case for case in ready_cases() if case.wish.classes is not None and len(set(case.firsts)) == 1 and case.things < 4]
        for one, other in product(some, some):
            if one.rule == other.rule and one.firsts[0] == other.firsts[0] and fading(one) and one.things * other.things <= 6:
                try:
                    found = depth_of(one_asked(one, other))
                except TooMany:
                    continue
                left, right = depth_of(one), depth_of(other)
                many += 1
                self.assertTrue(at_most_as_deep(found, None if left is None or right is None else left + right))
        self.assertGreater(many, 40)

    def test_less_than_that_of_one(self):
        """An idle question of the other one shows which of two rules is kept."""
        rule = either(truthful(), always_false())
        one = Case.alike(Stock(2, 1, 2, [Question(0, [0, 1])]), rule, Wish.each(2))
        other = Case.alike(Stock(1, 1, 2, [Question(0, [0])]), rule, Wish.each(1))
        self.assertEqual([depth_of(one), depth_of(other), depth_of(one_asked(one, other))], [None, 0, 2])


class Freer(unittest.TestCase):
    def test_no_freer(self):
        draws = Draws(338)
        many = 0
        for case in made_cases(339, 60, 3, 1, 2, 2) + ready_cases()[::3]:
            everything = all_situations(case)
            for _ in range(40):
                one, other = draws.pick(everything), draws.pick(everything)
                if not is_no_freer(case, one, other):
                    continue
                many += one != other
                self.assertTrue(at_most_as_deep(depth_of(case, one), depth_of(case, other)))
                self.assertTrue(is_settled(case, one) or not is_settled(case, other))
                for number in range(len(case.stock)):
                    for told in range(case.heaps):
                        self.assertTrue(told in can_come(case, other, number) or told not in can_come(case, one, number))
                        self.assertTrue(is_no_freer(case, after(case, one, number, told), after(case, other, number, told)))
        self.assertGreater(many, 200)

    def test_answers(self):
        """At depth d each question has an answer that leaves d - 1 at least, some question none that leaves more."""
        for case in made_cases(340, 60):
            known = dict(depths(case))
            for situation, depth in list(known.items())[:8]:
                if depth == 0 or is_settled(case, situation):
                    continue
                worst = []
                for number in range(len(case.stock)):
                    found = [known[after(case, situation, number, told)] for told in can_come(case, situation, number)]
                    worst.append(None if None in found else max(found))
                if depth is None:
                    self.assertEqual(set(worst), {None} if worst else set())
                else:
                    self.assertTrue(all(one is None or one >= depth - 1 for one in worst) and depth - 1 in worst)
                self.assertEqual(worths(case, situation), tuple(None if one is None else one + 1 for one in worst))

    def test_plans_are_for_what_is_told_less(self):
        two = Case.alike(Stock.splits(2), at_most(1), Wish.each(2))
        self.assertEqual(len(find_plan(two).table), 8)


if __name__ == "__main__":
    unittest.main()
