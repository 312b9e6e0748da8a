"""truthwell.carried, truthwell.pair_plans."""

import unittest

from truthwell.carried import carried
from truthwell.cases import Case
from truthwell.check_plans import shows_plan
from truthwell.check_plans import shows_untold
from truthwell.depths import depth_of
from truthwell.depths import depths
from truthwell.depths import find_plan
from truthwell.errors import BadCase
from truthwell.errors import BadPlan
from truthwell.errors import NotFading
from truthwell.errors import NotFreer
from truthwell.errors import TooMany
from truthwell.errors import Unlike
from truthwell.fading import fading
from truthwell.pair_plans import Untold
from truthwell.pair_plans import by_groups
from truthwell.pair_plans import group_depths
from truthwell.papers import Denial
from truthwell.plans import Plan
from truthwell.questions import Question
from truthwell.ready import after_truths
from truthwell.ready import anything
from truthwell.ready import at_most
from truthwell.ready import never_running
from truthwell.ready import one_in
from truthwell.ready import truthful
from truthwell.rules import Rule
from truthwell.stocks import Stock
from truthwell.wishes import Wish

from helpers import Checks
from helpers import Draws
from helpers import ODD
from helpers import made_cases
from helpers import made_rule
from plain import all_depths
from plain import answers
from plain import fades
from plain import freer_pairs
from plain import groups_of
from plain import led_by
from plain import numbers_of
from plain import right_plan
from plain import right_untold
from test_depths import FULL
from test_depths import chain
from test_plans import PLAN
from test_plans import TWO
from test_plans import RUNS
from test_plans import cases_with_plans
from test_plans import looser

PLAIN = Case.alike(Stock.splits(2), truthful(), Wish.each(2))


def less_free(draws, case):
    """A case with the same stock and wish, whose rule lets less: some triples are barred, stands doubled."""
    rule = case.rule
    size = rule.heaps
    many = len(rule)
    rows = []
    for copy in range(2):
        for row in rule.rows:
            new = [None if entry is None else entry + many * draws.below(2) for entry in row]
            for at in range(0, len(new), size):
                let = [k for k in range(at, at + size) if new[k] is not None]
                if len(let) > 1 and draws.below(3) == 0:
                    new[draws.pick(let)] = None
            rows.append(new)
    firsts = [first + many * draws.below(2) for first in case.firsts]
    return Case(case.stock, Rule(rule.answerers, rule.heaps, rows), firsts, case.wish)


def first_unlike(case, other):
    """The first thing that may say in other what it may not say in case."""
    pairs = freer_pairs(other.rule, case.rule)
    return [x for x in range(case.things) if (other.firsts[x], case.firsts[x]) not in pairs][:1]


class Carried(Checks, unittest.TestCase):
    def test_less_free(self):
        draws = Draws(241)
        for case, plan in cases_with_plans():
            for _ in range(3):
                other = less_free(draws, case)
                for told in (plan, looser(case, draws)):
                    found = carried(case, told, other)
                    self.assertIsInstance(found, Plan)
                    depth = [rank for situation, rank, number in told.table if situation == case.firsts][0]
                    self.assertTrue(right_plan(other, found.table, depth))
                    self.assertEqual([row[0] for row in found.table], led_by(other, found.table))
                    self.assertTrue(shows_plan(other, found, depth))
                    self.assertEqual(carried(case, told, other), found)

    def test_itself(self):
        for case, plan in cases_with_plans()[::3]:
            self.assertEqual(carried(case, plan, case), plan)

    def test_any_rules(self):
        draws = Draws(242)
        seen = set()
        for case, plan in cases_with_plans():
            rule = made_rule(draws, case.answerers, case.heaps, 1 + draws.below(2), 3)
            other = Case(case.stock, rule, [draws.below(len(rule)) for _ in range(case.things)], case.wish)
            wrong = first_unlike(case, other)
            seen.add(bool(wrong))
            if wrong:
                self.raises(NotFreer(wrong[0]), carried, case, plan, other)
            else:
                self.assertTrue(right_plan(other, carried(case, plan, other).table, depth_of(case)))
        self.assertEqual(len(seen), 2)

    def test_ready(self):
        loose = Case.alike(Stock.splits(3), one_in(3), Wish.each(3))
        plan = find_plan(loose)
        for rule in (one_in(4), one_in(7), truthful(), at_most(0)):
            other = Case.alike(loose.stock, rule, loose.wish)
            self.assertTrue(right_plan(other, carried(loose, plan, other).table, depth_of(loose)))
        for rule in (one_in(2), at_most(2), anything()):
            self.raises(NotFreer(0), carried, loose, plan, Case.alike(loose.stock, rule, loose.wish))
        other = Case(loose.stock, Rule.read("1 2 | 0 1 1 0 | 1 - - 1"), [1, 1, 0], loose.wish)
        self.raises(NotFreer(2), carried, Case.alike(loose.stock, truthful(), loose.wish), find_plan(Case.alike(loose.stock, truthful(), loose.wish)), other)

    def test_one_situation_for_several(self):
        """What is left under a narrower rule may be met with several situations of the plan: the least rank counts."""
        draws = Draws(244)
        rules = [truthful(), at_most(1), at_most(2), one_in(2), one_in(3), one_in(4), never_running()]
        many = 0
        for stock, wish in ((Stock.splits(3), Wish.each(3)), (Stock.singles(3), Wish.each(3)), (Stock.splits(4), Wish.each(4)), (Stock.singles(4), Wish.left(2))):
            for rule in rules:
                case = Case.alike(stock, rule, wish)
                plans = [] if depth_of(case) is None else [find_plan(case), looser(case, draws), looser(case, draws), looser(case, draws)]
                for less in rules:
                    other = Case.alike(stock, less, wish)
                    for plan in plans if not first_unlike(case, other) else []:
                        depth = [rank for situation, rank, number in plan.table if situation == case.firsts][0]
                        found = carried(case, plan, other)
                        many += 1
                        self.assertTrue(right_plan(other, found.table, depth))
                        self.assertEqual([row[0] for row in found.table], led_by(other, found.table))
        self.assertGreater(many, 100)

    def test_settled_here_alone(self):
        first = Case(Stock.splits(2), Rule.read("1 2 | 0 - - 0 | - 1 1 -"), [0, 1], Wish.each(2))
        plan = find_plan(first)
        self.assertEqual(carried(first, plan, first).table, plan.table)
        great = Plan([(s, r * 10 ** 30, n) for s, r, n in plan.table])
        self.assertEqual(carried(first, great, first).table, great.table)

    def test_errors(self):
        self.odd(lambda value: carried(value, None, None), lambda value: BadCase("case"))
        for value in ODD + [Plan(PLAN.table[1:]), PLAN.table, Denial("plan", PLAN.table)]:
            self.raises(BadPlan("plan"), carried, TWO, value, None)
        self.odd(lambda value: carried(TWO, PLAN, value), lambda value: BadCase("other"))
        other_stock = Case.alike(Stock.singles(2), anything(), Wish.left(1))
        self.raises(Unlike("stock"), carried, TWO, PLAN, other_stock)
        self.raises(Unlike("stock"), carried, TWO, PLAN, Case.alike(Stock(2, 2, 2, Stock.splits(2).questions), anything(2), Wish.each(2)))
        self.raises(Unlike("wish"), carried, TWO, PLAN, Case.alike(Stock.splits(2), anything(), Wish.left(1)))
        self.raises(NotFreer(0), carried, TWO, PLAN, Case.alike(Stock.splits(2), anything(), Wish.each(2)))
        self.raises(NotFreer(1), carried, TWO, PLAN, Case(Stock.splits(2), Rule.read("1 2 | 0 - - 0 | 1 1 1 1"), [0, 1], Wish.each(2)))
        self.assertTrue(carried(case=TWO, plan=PLAN, other=PLAIN))
        self.raises(BadPlan("plan"), carried, PLAIN, PLAN, TWO)


class Groups(Checks, unittest.TestCase):
    def cases(self):
        return made_cases(243, 110) + made_cases(244, 50, 4, 1, 2, 2) + [
            Case.alike(Stock.splits(things), rule, wish) for things in (2, 3, 4) for rule in (at_most(1), one_in(3), never_running())
            for wish in (Wish.each(things), Wish.left(1), Wish.left(2), Wish.left(things))]

    def test_group_depths(self):
        for case in self.cases():
            wanted = []
            for group in groups_of(case):
                begun = tuple(s if x in group else -1 for x, s in enumerate(case.firsts))
                wanted.append((group, all_depths(case, begun)[begun]))
            self.assertEqual(group_depths(case), tuple(wanted))

    def test_by_groups(self):
        seen = {"plan": 0, "untold": 0, "not": 0}
        for case in self.cases():
            if not all(fades(case)):
                self.raises(NotFading(fades(case).index(False)), by_groups, case)
                seen["not"] += 1
                continue
            found = by_groups(case)
            never = [group for group, depth in group_depths(case) if depth is None]
            self.assertIs(bool(found), not never)
            self.assertEqual(depth_of(case) is None, bool(never))
            if never:
                self.check_untold(case, found, never[0])
                seen["untold"] += 1
            else:
                most = self.most_asked(case)
                self.assertTrue(right_plan(case, found.table, most))
                self.assertTrue(shows_plan(case, found, most))
                self.assertEqual([row[0] for row in found.table], led_by(case, found.table))
                seen["plan"] += 1
        self.assertGreater(min(seen.values()), 20)

    def most_asked(self, case):
        """The sum of the greatest depths of groups, by the words of the document."""
        spare = 1 if case.wish.classes is not None else case.wish.most
        ordered = sorted((depth for group, depth in group_depths(case)), reverse=True)
        return sum(ordered[:max(0, case.things - spare)])

    def check_untold(self, case, found, group):
        self.assertIsInstance(found, Untold)
        self.assertEqual(found.group, group)
        self.assertTrue(right_untold(case, *found.parts))
        self.assertTrue(shows_untold(case, found))
        begun = tuple(s if x in group else -1 for x, s in enumerate(case.firsts))
        known = all_depths(case, begun)
        table = dict(found.ring)
        met = [begun]
        for now in met:
            for number in numbers_of(case):
                coming = [(told, new) for told, new in answers(case, now, number) if known[new] is None]
                self.assertEqual(table[now][number], coming[0][0])
                if coming[0][1] not in met:
                    met.append(coming[0][1])
        self.assertEqual(sorted(met), list(table))

    def test_not_fading(self):
        self.raises(NotFading(0), by_groups, Case.alike(Stock.singles(3), after_truths(1), Wish.each(3)))
        self.raises(NotFading(2), by_groups, Case(Stock.singles(3), never_running(), [0, 0, 1], Wish.each(3)))
        case = Case.alike(Stock.singles(3), after_truths(1), Wish.each(3))
        self.assertEqual([depth for group, depth in group_depths(case)], [1, 1, 1])
        self.assertIsNone(depth_of(case))

    def test_edges(self):
        one = Case.alike(Stock.splits(1), at_most(1), Wish.each(1))
        self.assertEqual([group_depths(one), by_groups(one).table], [(), (((0,), 0, None),)])
        wide = Case.alike(Stock.splits(3), anything(), Wish.left(3))
        self.assertEqual([group_depths(wide), len(by_groups(wide).table)], [(), 1])
        trio = Case.alike(Stock.splits(3), at_most(1), Wish.left(2))
        self.assertEqual(group_depths(trio), (((0, 1, 2), depth_of(trio)),))
        self.assertEqual(bool(fading(trio)), True)

    def test_errors(self):
        self.odd(group_depths, lambda value: BadCase("case"))
        self.odd(by_groups, lambda value: BadCase("case"))
        self.assertEqual(group_depths(case=RUNS), (((0, 1), None),))
        self.assertEqual(by_groups(case=RUNS).group, (0, 1))

    def test_too_many(self):
        full, more = chain([0, 0, 0, 0]), chain([0, 0, 63, 0])
        self.assertEqual(group_depths(full), (((0, 1), 126),))
        self.raises(FULL, group_depths, more)
        self.assertEqual(len(by_groups(full).table), 4096)
        self.raises(FULL, by_groups, more)
        # Behind the first answer more can be told than ahead of it: this comes first.
        freed = Case(Stock.splits(2), chain([0, None, 63, 0]).rule, [63, 63], Wish.each(2))
        self.raises(FULL, group_depths, freed)
        self.raises(NotFading(0), by_groups, freed)
        big = Case.alike(Stock(2, 1, 2, [Question(0, [0, 1])]), at_most(63), Wish.each(2))
        self.raises(FULL, by_groups, big)
        fine = Case.alike(big.stock, at_most(62), Wish.each(2))
        self.assertEqual(len(depths(fine)), 4095)
        self.assertEqual(len(by_groups(fine).table), len(find_plan(fine).table))
        self.raises(FULL, group_depths, Case.alike(big.stock, at_most(63), Wish.left(1)))

    def test_papers(self):
        paper = Untold(group=[0, 1], ring=[[[0, 0], []]])
        self.assertEqual([paper.word, paper.group, paper.ring, bool(paper)], ["untold", (0, 1), (((0, 0), ()),), False])
        self.assertIsInstance(paper, Denial)
        plan = Plan(table=[[[0], 0, None]])
        self.assertEqual([plan.word, plan.table, bool(plan), plan == Plan((((0,), 0, None),))], ["plan", (((0,), 0, None),), True, True])


if __name__ == "__main__":
    unittest.main()
