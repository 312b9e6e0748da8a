"""truthwell.rounds, truthwell.cloud_walks."""

import time
import unittest

from truthwell.ahead import fewest_ahead
from truthwell.ahead import never_ahead
from truthwell.cases import Case
from truthwell.depths import depth_of
from truthwell.errors import BadCase
from truthwell.errors import BadNumber
from truthwell.errors import BadSituation
from truthwell.errors import NoQuestion
from truthwell.errors import TooMany
from truthwell.papers import Denial
from truthwell.papers import Paper
from truthwell.plans import Plan
from truthwell.questions import Question
from truthwell.ready import after_truths
from truthwell.ready import anything
from truthwell.ready import at_most
from truthwell.ready import named_tells
from truthwell.ready import never_running
from truthwell.ready import one_in
from truthwell.ready import truthful
from truthwell.rounds import RoundPlan
from truthwell.rounds import clouds
from truthwell.rounds import least_in_rounds
from truthwell.rounds import turned_into
from truthwell.rules import Rule
from truthwell.stocks import Stock
from truthwell.wishes import Wish

from helpers import BIG
from helpers import Checks
from helpers import Draws
from helpers import ODD
from helpers import is_int
from helpers import made_cases
from plain import all_clouds
from plain import all_situations
from plain import settled_in_rounds
from plain import turned

TWO = Case.alike(Stock(2, 1, 2, [Question(0, [0, 1])]), at_most(1), Wish.each(2))
FULL = TooMany("clouds", 1000)


def cases():
    found = made_cases(321, 50, 3, 2, 2, 2, 2) + made_cases(322, 15, 3, 1, 3, 2, 2)
    for rule in (truthful(), at_most(1), one_in(3), never_running(), after_truths(1), after_truths(2), anything()):
        found += [Case.alike(stock, rule, wish) for stock in (Stock.singles(2), Stock.singles(3), Stock.splits(3)) for wish in (Wish.each(stock.things), Wish.left(2))]
    found.append(Case.alike(Stock(2, 2, 2, [Question(0, [0, 1]), Question(1, [0, 1])]), named_tells(), Wish.each(2)))
    return found


def few(case, rounds):
    """Whether not too many clouds come about."""
    return all_clouds(case, rounds, 600) is not None


class Clouds(Checks, unittest.TestCase):
    def test_turned(self):
        for case in made_cases(323, 60):
            draws = Draws(324)
            fine = [situation for situation in all_situations(case) if max(situation) >= 0]
            for number in range(len(case.stock)):
                cloud = []
                for _ in range(1 + draws.below(4)):
                    situation = draws.pick(fine)
                    if situation not in cloud:
                        cloud.append(situation)
                self.assertEqual(turned_into(case, cloud, number), turned(case, cloud, number))
                self.assertEqual(turned_into(case, tuple(list(situation) for situation in cloud[::-1]), number), turned(case, cloud, number))

    def test_come_about(self):
        for case in cases():
            for rounds in (1, 2, 3, BIG):
                wanted = all_clouds(case, rounds, 300)
                if wanted is not None:
                    self.assertEqual(clouds(case, rounds), wanted)

    def test_edges(self):
        done = Case.alike(Stock.singles(1), at_most(1), Wish.each(1))
        self.assertEqual(clouds(done, 1), (((0,),), ((0,), (1,))))
        self.assertEqual(clouds(done, 5), all_clouds(done, 5))
        empty = Case.alike(Stock(2, 1, 2, []), truthful(), Wish.each(2))
        self.assertEqual([clouds(empty, 1), clouds(empty, 2), least_in_rounds(empty, 1), least_in_rounds(empty, BIG)], [(((0, 0),),), (((0, 0),),), None, None])
        self.assertEqual(turned_into(case=TWO, cloud=[[0, -1], [0, 0]], number=0), ((0, -1), (0, 1), (1, -1), (1, 0)))

    def test_errors(self):
        self.odd(lambda value: turned_into(value, None, None), lambda value: BadCase("case"))
        for call in (clouds, least_in_rounds):
            self.odd(lambda value: call(value, None), lambda value: BadCase("case"))
            for value in ODD + [0, -1]:
                if not (is_int(value) and value >= 1):
                    self.raises(BadNumber("rounds"), call, TWO, value)
        bad = [[[0, 0], [0, 0]], [[0, 0], (0, 0)], [[-1, -1]], [[0, 0], [-1, -1]], [[0]], [[0, 0, 0]], [[0, 2]], [[-2, 0]], [[True, 0]], [[0, 0], None],
               {(0, 0): 1}, [[0, None]], "ab", [(0, 0.0)]]
        for value in ODD + bad:
            if value not in ([[0, 0]],):
                self.raises(BadSituation("cloud"), turned_into, TWO, value, None)
        self.odd_stand(lambda value: turned_into(TWO, [[0, 0]], value), 1, NoQuestion)

    def test_not_changed(self):
        cloud = [[1, 0], [0, 1]]
        turned_into(TWO, cloud, 0)
        self.assertEqual(cloud, [[1, 0], [0, 1]])

    def test_too_many(self):
        begun = time.time()
        # Each of three questions moves one of three things round a ring of 10 stands.
        ring = Rule(1, 2, [[s + 1 if s < 9 else 0] * 2 + [s] * 2 for s in range(10)])
        stock = Stock(3, 1, 2, [Question(0, [0, 1, 1]), Question(0, [1, 0, 1]), Question(0, [1, 1, 0])])
        for rounds in (1, 2):
            case = Case.alike(stock, ring, Wish.each(3))
            self.assertEqual([len(clouds(case, rounds)), least_in_rounds(case, rounds)], [1000, None])
        # One question moves three things, round rings of 7, 11 and 13 stands.
        rows = []
        for begin, many in ((0, 7), (7, 11), (18, 13)):
            rows += [[begin + (s + 1 if s + 1 < many else 0)] * 4 for s in range(many)]
        more = Case(Stock(3, 1, 2, [Question(0, [0, 0, 0])]), Rule(1, 2, rows), [0, 7, 18], Wish.each(3))
        # What is settled turns on and on, too.
        done = Case(more.stock, more.rule, more.firsts, Wish.left(3))
        wide = Case.alike(Stock.splits(3), at_most(20), Wish.each(3))
        for case in (more, done, wide):
            for rounds in (1, 2, BIG):
                self.raises(FULL, clouds, case, rounds)
                self.raises(FULL, least_in_rounds, case, rounds)
            self.raises(BadNumber("rounds"), clouds, case, 0)
        self.assertLess(time.time() - begun, 20)


class Least(Checks, unittest.TestCase):
    def test_against_trials(self):
        seen = set()
        for case in cases():
            top = 4 if len(case.stock) < 3 else 3
            for rounds in (1, 2, 3):
                if not few(case, rounds):
                    continue
                found = least_in_rounds(case, rounds)
                fitting = [most for most in range(top + 1) if settled_in_rounds(case, case.firsts, rounds, most)]
                seen.add((rounds, fitting[0] if fitting else None))
                if fitting:
                    self.assertEqual(found, fitting[0])
                else:
                    self.assertTrue(found is None or found > top)
        self.assertGreater(len(seen), 12)

    def test_facts(self):
        late = 0
        for case in cases():
            if not few(case, 2):
                continue
            depth = depth_of(case)
            known = [least_in_rounds(case, rounds) for rounds in range(1, 8)]
            for one, two in zip(known, known[1:]):
                self.assertTrue(one is None or (two is not None and two <= one))
                late += one is None and two is not None
            if depth is None:
                self.assertEqual(set(known), {None})
            elif depth > 0:
                self.assertEqual([least_in_rounds(case, depth + more) for more in (0, 1, 9, BIG)], [depth] * 4)
                self.assertTrue(all(one is None or one >= depth for one in known))
            else:
                self.assertEqual(set(known), {0})
            ahead = fewest_ahead(case, 6)
            if ahead:
                self.assertEqual(known[0], len(ahead.numbers))
            elif known[0] is None:
                self.assertIsNotNone(never_ahead(case))
            else:
                self.assertGreater(known[0], 6)
        self.assertGreater(late, 0)

    def test_settled(self):
        done = Case.alike(Stock.singles(2), at_most(1), Wish.left(2))
        self.assertEqual([least_in_rounds(done, 1), least_in_rounds(case=done, rounds=BIG)], [0, 0])

    def test_short_time(self):
        begun = time.time()
        eight = Case.alike(Stock(8, 1, 2, [Question(0, [x >> k & 1 for x in range(8)]) for k in range(3)]), at_most(1), Wish.each(8))
        self.assertEqual(least_in_rounds(eight, 1), 9)
        chain = Case.alike(Stock(2, 1, 2, [Question(0, [0, 1])]), at_most(4), Wish.each(2))
        self.assertEqual([least_in_rounds(chain, rounds) for rounds in (1, 2, BIG)], [9, 9, 9])
        self.assertLess(time.time() - begun, 20)


class Papers(unittest.TestCase):
    def test_round_plan(self):
        paper = RoundPlan(table=[[[0, 0], 1, 2, [0]]])
        self.assertEqual([paper.word, paper.table, paper.parts, bool(paper)], ["roundplan", (((0, 0), 1, 2, (0,)),), ((((0, 0), 1, 2, (0,)),),), True])
        self.assertTrue(isinstance(paper, Paper) and not isinstance(paper, Denial))
        self.assertTrue(paper == RoundPlan(paper.table) and paper != Plan(paper.table))


if __name__ == "__main__":
    unittest.main()
