"""truthwell.changed, truthwell.twins, truthwell.two_cases."""

import copy
import unittest
from itertools import combinations
from itertools import permutations
from itertools import product

from truthwell.cases import Case
from truthwell.changed import asked_of
from truthwell.changed import least_case
from truthwell.changed import narrowed
from truthwell.changed import picked
from truthwell.changed import renamed
from truthwell.changed import turned
from truthwell.changed import with_rule
from truthwell.changed import with_wish
from truthwell.errors import BadCase
from truthwell.errors import BadList
from truthwell.errors import BadRule
from truthwell.errors import BadWish
from truthwell.errors import NoQuestion
from truthwell.errors import NoStand
from truthwell.errors import NoThing
from truthwell.errors import NotEven
from truthwell.errors import TooMany
from truthwell.errors import Twice
from truthwell.errors import Unlike
from truthwell.least_rule import least_form
from truthwell.questions import Question
from truthwell.ready import anything
from truthwell.ready import at_most
from truthwell.ready import false_yes
from truthwell.ready import named_tells
from truthwell.ready import never_running
from truthwell.ready import one_in
from truthwell.ready import truthful
from truthwell.roads import open_by_pasts
from truthwell.rules import Rule
from truthwell.stocks import Stock
from truthwell.twins import never_told
from truthwell.twins import twins
from truthwell.twins import untwinned
from truthwell.two_cases import one_asked
from truthwell.two_cases import two_asked
from truthwell.wishes import Wish

from helpers import BIG
from helpers import Checks
from helpers import Draws
from helpers import is_int
from helpers import made_case

STOCK = Stock(3, 1, 2, [Question(0, [0, 1, 1]), Question(0, [0, 0, 1])])
CASE = Case(STOCK, at_most(1), [0, 0, 1], Wish.of([0, 1, 1]))
COUNT = Case(STOCK, at_most(1), [0, 0, 1], Wish.left(2))


def made_cases(seed, many, **more):
    draws = Draws(seed)
    return [made_case(draws, 1 + draws.below(4), 1 + draws.below(2), 2 + draws.below(2), **more) for _ in range(many)]


def hearings_of(case, most):
    """All lists of at most so many questions, with all hearings."""
    for length in range(most + 1):
        for numbers in product(range(len(case.stock)), repeat=length):
            for hearing in product(range(case.heaps), repeat=length):
                yield numbers, hearing


class Changed(Checks, unittest.TestCase):
    def test_renamed(self):
        for case in made_cases(71, 12):
            for order in permutations(range(case.things)):
                new = renamed(case, list(order))
                self.assertEqual([new.rule, len(new.stock), new.firsts], [case.rule, len(case.stock), tuple(case.firsts[x] for x in order)])
                for old, question in zip(case.stock, new.stock):
                    self.assertEqual([question.who, question.heaps], [old.who, tuple(old.heaps[x] for x in order)])
                for x, y in combinations(range(case.things), 2):
                    self.assertEqual(new.wish.classes[x] == new.wish.classes[y],
                                     case.wish.classes[order[x]] == case.wish.classes[order[y]])
        self.assertEqual(renamed(COUNT, (2, 1, 0)).wish, Wish.left(2))

    def test_narrowed(self):
        for case in made_cases(72, 12) + made_cases(73, 8, number=True):
            for length in range(1, case.things + 1):
                for things in combinations(range(case.things), length):
                    new = narrowed(case, things[::-1])
                    rows = []
                    for question in case.stock:
                        row = Question(question.who, [question.heaps[x] for x in things])
                        if row not in rows:
                            rows.append(row)
                    wish = case.wish if case.wish.classes is None else Wish.of([case.wish.classes[x] for x in things])
                    self.assertEqual(new, Case(Stock(length, case.answerers, case.heaps, rows), case.rule,
                                               [case.firsts[x] for x in things], wish))

    def test_picked(self):
        case = Case(Stock.splits(3), at_most(1), [0, 0, 1], Wish.each(3))
        for length in range(5):
            for numbers in permutations(range(4), length):
                new = picked(case, list(numbers))
                self.assertEqual(new, Case(Stock(3, 1, 2, [case.stock[k] for k in numbers]), case.rule, case.firsts, case.wish))
        self.assertEqual(len(picked(case, []).stock), 0)

    def test_turned(self):
        for case in made_cases(74, 20):
            for number in range(len(case.stock)):
                for heaps in permutations(range(case.heaps)):
                    if not case.rule.is_even:
                        self.raises(NotEven(), turned, case, number, heaps)
        case = Case(Stock(2, 1, 3, [Question(0, [0, 2]), Question(0, [1, 1])]), one_in(2, 1, 3), [0, 1], Wish.each(2))
        for heaps in permutations(range(3)):
            new = turned(case, 0, list(heaps))
            self.assertEqual([new.stock[0].heaps, new.stock[1], new.rule, new.firsts, new.wish],
                             [(heaps[0], heaps[2]), case.stock[1], case.rule, case.firsts, case.wish])
            for numbers, hearing in hearings_of(case, 3):
                told = [heaps[heap] if number == 0 else heap for number, heap in zip(numbers, hearing)]
                self.assertEqual(open_by_pasts(new, numbers, told), open_by_pasts(case, numbers, hearing))

    def test_turned_twice(self):
        case = Case.alike(Stock(2, 1, 2, [Question(0, [0, 0]), Question(0, [0, 1]), Question(0, [1, 0])]), at_most(1), Wish.each(2))
        self.raises(Twice(2), turned, case, 1, [1, 0])
        self.raises(Twice(1), turned, case, 2, (1, 0))
        self.assertEqual(turned(case, 1, [0, 1]), case)
        self.assertEqual(turned(case, 0, [1, 0]).stock[0].heaps, (1, 1))
        own = Case.alike(Stock(2, 2, 2, [Question(0, [0, 1]), Question(1, [1, 0])]), at_most(1, 2), Wish.each(2))
        self.assertEqual(turned(own, 0, [1, 0]).stock[0], Question(0, [1, 0]))

    def test_asked_of(self):
        for case in made_cases(75, 12):
            for order in permutations(range(case.answerers)):
                new = asked_of(case, list(order))
                for old, question in zip(case.stock, new.stock):
                    self.assertEqual([order[question.who], question.heaps], [old.who, old.heaps])
                for stand, who, true, told in product(range(len(case.rule)), range(case.answerers), range(case.heaps), range(case.heaps)):
                    self.assertEqual(new.rule.behind(stand, who, true, told), case.rule.behind(stand, order[who], true, told))
                self.assertEqual([new.firsts, new.wish], [case.firsts, case.wish])
                for numbers, hearing in hearings_of(case, 2):
                    self.assertEqual(open_by_pasts(new, numbers, hearing), open_by_pasts(case, numbers, hearing))
        named = Case.alike(Stock(2, 3, 3, [Question(0, [0, 1]), Question(1, [0, 1]), Question(2, [0, 1])]), named_tells(3), Wish.each(2))
        self.assertEqual([question.who for question in asked_of(named, [2, 0, 1]).stock], [1, 2, 0])

    def test_with(self):
        self.assertEqual(with_rule(CASE, one_in(3), [2, 1, 0]), Case(STOCK, one_in(3), [2, 1, 0], CASE.wish))
        self.assertEqual(with_wish(CASE, Wish.left(1)), Case(STOCK, CASE.rule, CASE.firsts, Wish.left(1)))
        self.assertEqual(with_rule(case=CASE, rule=one_in(3), firsts=(0, 0, 0)).firsts, (0, 0, 0))

    def test_least_case(self):
        for case in made_cases(76, 20, stands=5):
            new = least_case(case)
            rule, firsts = least_form(case.rule, case.firsts)
            self.assertEqual(new, Case(case.stock, rule, firsts, case.wish))
            for numbers, hearing in hearings_of(case, 2):
                self.assertEqual(open_by_pasts(new, numbers, hearing), open_by_pasts(case, numbers, hearing))
        same = Case(STOCK, Rule.read("1 2 | 1 0 0 1 | 0 1 1 0"), [1, 0, 1], CASE.wish)
        self.assertEqual(least_case(same), Case(STOCK, anything(), [0, 0, 0], CASE.wish))


class ChangedErrors(Checks, unittest.TestCase):
    def test_case(self):
        calls = [lambda value: renamed(value, None), lambda value: narrowed(value, None), lambda value: picked(value, None),
                 lambda value: turned(value, None, None), lambda value: asked_of(value, None), lambda value: with_rule(value, None, None),
                 lambda value: with_wish(value, None), least_case, twins, untwinned, never_told]
        for call in calls:
            self.odd(call, lambda value: BadCase("case"))

    def test_orders(self):
        self.odd(lambda value: renamed(CASE, value), lambda value: BadCase("order"))
        for order in ([0, 1], [0, 1, 2, 3], [0, 1, 1], [0, True, 2], [0, 1, 3], [0, 1, -1], [0, 1, "2"], "012", {0: 0, 1: 1, 2: 2}):
            self.raises(BadCase("order"), renamed, CASE, order)
        two = Case.alike(Stock(2, 2, 2, []), truthful(2), Wish.each(2))
        self.odd(lambda value: asked_of(two, value), lambda value: BadCase("order"), lambda value: value == (0, 1))
        for order in ([0], [0, 1, 2], [1, 1], [1, False], [1, 2], [1, -1]):
            self.raises(BadCase("order"), asked_of, two, order)

    def test_things(self):
        self.odd(lambda value: narrowed(CASE, value), lambda value: BadCase("things"),
                 lambda value: isinstance(value, (list, tuple)) and len(value) > 0 and all(is_int(x) for x in value) and value != [0, 0])
        for things in ([0, 0], [5, 5], [1, None], [0, True], [], ()):
            self.raises(BadCase("things"), narrowed, CASE, things)
        self.raises(NoThing(3), narrowed, CASE, [1, 3, -1])
        self.raises(NoThing(-1), narrowed, CASE, [-1, 3])
        self.raises(NoThing(BIG), narrowed, CASE, [BIG])

    def test_numbers(self):
        self.odd(lambda value: picked(CASE, value), lambda value: BadList("numbers"), lambda value: isinstance(value, (list, tuple)))
        self.odd_stand(lambda value: picked(CASE, [0, 0, value, 99]), 2, NoQuestion)
        self.raises(Twice(0), picked, CASE, [0, 1, 0, 1])
        self.raises(Twice(1), picked, CASE, (0, 1, 1, 0))
        self.raises(NoQuestion(2), picked, CASE, [0, 0, 2])

    def test_turned(self):
        uneven = Case.alike(STOCK, false_yes(1), Wish.each(3))
        self.odd_stand(lambda value: turned(uneven, value, None), 2, NoQuestion)
        self.odd(lambda value: turned(uneven, 0, value), lambda value: BadCase("heaps"), lambda value: value == (0, 1))
        for heaps in ([0], [1, 1], [0, 1, 2], [True, 0], "01"):
            self.raises(BadCase("heaps"), turned, uneven, 0, heaps)
        self.raises(NotEven(), turned, uneven, 0, [0, 1])
        self.raises(NotEven(), turned, Case.alike(Stock(2, 1, 2, [Question(0, [0, 1]), Question(0, [1, 0])]), false_yes(1), Wish.each(2)),
                    0, [1, 0])

    def test_with(self):
        self.odd(lambda value: with_rule(CASE, value, None), lambda value: BadRule("rule"))
        self.odd(lambda value: with_rule(CASE, truthful(2, 3), value), lambda value: BadCase("firsts"), lambda value: value == [1, 0, BIG])
        self.raises(NoStand(1), with_rule, CASE, truthful(2, 3), [0, 1, 2])
        self.raises(Unlike("answerers"), with_rule, CASE, truthful(2, 3), [0, 0, 0])
        self.raises(Unlike("heaps"), with_rule, CASE, truthful(1, 3), [0, 0, 0])
        self.odd(lambda value: with_wish(CASE, value), lambda value: BadWish("wish"))
        self.raises(Unlike("things"), with_wish, CASE, Wish.each(2))

    def test_unchanged(self):
        lists = [[2, 0, 1], [1, 0], [0, 1]]
        kept = copy.deepcopy(lists)
        text = str(CASE)
        new = renamed(CASE, lists[0]), narrowed(CASE, lists[1]), picked(CASE, lists[2]), turned(CASE, 0, lists[1])
        texts = [str(case) for case in new]
        self.assertEqual([lists, str(CASE)], [kept, text])
        for row in lists:
            row.clear()
        self.assertEqual([str(case) for case in new], texts)


class Twins(Checks, unittest.TestCase):
    def test_against_search(self):
        for case in made_cases(77, 60, stands=2, questions=1):
            like = [[x == y or case.firsts[x] == case.firsts[y] and all(q.heaps[x] == q.heaps[y] for q in case.stock)
                     for y in range(case.things)] for x in range(case.things)]
            same = case.wish.classes
            rows = sorted({tuple(y for y in range(case.things) if like[x][y] and same[x] == same[y]) for x in range(case.things)})
            self.assertEqual(twins(case), tuple(rows))
            self.assertEqual(untwinned(case), narrowed(case, [row[0] for row in rows]))
            self.assertEqual(never_told(case), tuple((x, y) for x, y in combinations(range(case.things), 2)
                                                     if like[x][y] and same[x] != same[y]))

    def test_edges(self):
        alike = Case.alike(Stock(16, 1, 2, []), truthful(), Wish.of([0] * 16))
        self.assertEqual([twins(alike), untwinned(alike).things, never_told(alike)], [(tuple(range(16)),), 1, ()])
        each = with_wish(alike, Wish.each(16))
        self.assertEqual([len(twins(each)), untwinned(each), len(never_told(each))], [16, each, 120])

    def test_errors(self):
        for call in (twins, untwinned, never_told):
            self.raises(BadCase("wish"), call, COUNT)
        self.assertEqual(twins(case=CASE), ((0,), (1,), (2,)))


class TwoCases(Checks, unittest.TestCase):
    def pairs(self, seed, many, answerers):
        draws = Draws(seed)
        for _ in range(many):
            heaps = 2 + draws.below(2)
            yield tuple(made_case(draws, 1 + draws.below(3), answerers, heaps, 3, draws.below(3)) for _ in range(2))

    def test_two_asked(self):
        for one, other in list(self.pairs(78, 14, 1)) + list(self.pairs(79, 6, 2)):
            case = two_asked(one, other)
            m, n = other.things, len(other.rule)
            pairs = [(x, y) for x in range(one.things) for y in range(m)]
            self.assertEqual([case.things, case.answerers, case.heaps, len(case.rule)],
                             [one.things * m, one.answerers + other.answerers, one.heaps, len(one.rule) * n])
            self.assertEqual(case.firsts, tuple(one.firsts[x] * n + other.firsts[y] for x, y in pairs))
            self.assertEqual(case.wish, Wish.of([one.wish.classes[x] * 99 + other.wish.classes[y] for x, y in pairs]))
            self.assertEqual(list(case.stock), [Question(q.who, [q.heaps[x] for x, y in pairs]) for q in one.stock]
                             + [Question(q.who + one.answerers, [q.heaps[y] for x, y in pairs]) for q in other.stock])
            for s, t, who, true, told in product(range(len(one.rule)), range(n), range(case.answerers), range(case.heaps), range(case.heaps)):
                if who < one.answerers:
                    end = one.rule.behind(s, who, true, told)
                    wanted = None if end is None else end * n + t
                else:
                    end = other.rule.behind(t, who - one.answerers, true, told)
                    wanted = None if end is None else s * n + end
                self.assertEqual(case.rule.behind(s * n + t, who, true, told), wanted)

    def test_two_asked_open(self):
        for one, other in self.pairs(80, 8, 1):
            case, k = two_asked(one, other), len(one.stock)
            for numbers, hearing in hearings_of(case, 2):
                ours = [(q, g) for q, g in zip(numbers, hearing) if q < k]
                theirs = [(q - k, g) for q, g in zip(numbers, hearing) if q >= k]
                left = open_by_pasts(one, [q for q, g in ours], [g for q, g in ours])
                right = open_by_pasts(other, [q for q, g in theirs], [g for q, g in theirs])
                self.assertEqual(open_by_pasts(case, numbers, hearing), tuple(x * other.things + y for x in left for y in right))

    def test_one_asked(self):
        draws = Draws(81)
        for _ in range(20):
            one = made_case(draws, 1 + draws.below(3), 2, 2, 2, draws.below(4))
            stand = draws.below(len(one.rule))
            one = with_rule(one, one.rule, [stand] * one.things)
            other = made_case(draws, 1 + draws.below(3), 2, 2, 2, draws.below(4))
            other = with_rule(other, Rule.read(str(one.rule)), [stand] * other.things)
            case = one_asked(one, other)
            pairs = [(x, y) for x in range(one.things) for y in range(other.things)]
            rows = []
            for row in [Question(q.who, [q.heaps[x] for x, y in pairs]) for q in one.stock] + [
                    Question(q.who, [q.heaps[y] for x, y in pairs]) for q in other.stock]:
                if row not in rows:
                    rows.append(row)
            wish = Wish.of([one.wish.classes[x] * 99 + other.wish.classes[y] for x, y in pairs])
            self.assertEqual(case, Case(Stock(len(pairs), 2, 2, rows), one.rule, [stand] * len(pairs), wish))

    def test_idle_stays_once(self):
        idle = Case.alike(Stock.splits(2), truthful(), Wish.each(2))
        self.assertEqual(str(one_asked(idle, idle).stock), "4 1 2 | 0 0000 | 0 0011 | 0 0101")
        self.assertEqual(len(two_asked(idle, idle).stock), 4)

    def test_errors(self):
        for call in (two_asked, one_asked):
            self.odd(lambda value: call(value, None), lambda value: BadCase("one"))
            self.odd(lambda value: call(COUNT, value), lambda value: BadCase("other"))
            three = Case.alike(Stock(2, 2, 3, []), truthful(2, 3), Wish.each(2))
            self.raises(BadCase("wish"), call, COUNT, three)
            self.raises(BadCase("wish"), call, three, COUNT)
            self.raises(Unlike("heaps"), call, CASE, three)
        self.assertEqual(two_asked(one=CASE, other=CASE).things, 9)

    def empty(self, things, rule, questions=()):
        return Case.alike(Stock(things, rule.answerers, 2, questions), rule, Wish.each(things))

    def test_two_asked_many(self):
        wide = [Question(0, row) for row in product(range(2), repeat=4)]
        wider = [Question(who, row) for who in range(4) for row in product(range(2), repeat=4)]
        self.assertEqual(two_asked(self.empty(4, truthful()), self.empty(4, truthful())).things, 16)
        self.raises(TooMany("things", 16), two_asked, self.empty(9, truthful(4)), self.empty(2, truthful(4)))
        self.assertEqual(two_asked(self.empty(1, truthful(3)), self.empty(1, truthful())).answerers, 4)
        self.raises(TooMany("answerers", 4), two_asked, self.empty(4, at_most(9, 3), wider[:48]), self.empty(4, at_most(9, 2), wider[:32]))
        self.assertEqual(len(two_asked(self.empty(4, truthful(3), wider[:48]), self.empty(4, truthful(), wide)).stock), 64)
        self.raises(TooMany("questions", 64), two_asked, self.empty(8, at_most(9), [
            Question(0, row) for row in list(product(range(2), repeat=8))[:64]]), self.empty(2, at_most(9), [Question(0, [0, 1])]))
        self.assertEqual(len(two_asked(self.empty(2, at_most(7)), self.empty(2, one_in(8))).rule), 64)
        self.raises(TooMany("stands", 64), two_asked, self.empty(2, at_most(12)), self.empty(2, one_in(5)))

    def test_one_asked_order(self):
        one = self.empty(9, at_most(1))
        self.raises(Unlike("rule"), one_asked, one, self.empty(2, at_most(2)))
        self.raises(Unlike("rule"), one_asked, one, self.empty(2, at_most(1, 2)))
        self.raises(Unlike("firsts"), one_asked, one, with_rule(self.empty(2, at_most(1)), at_most(1), [0, 1]))
        self.raises(Unlike("firsts"), one_asked, one, with_rule(self.empty(2, at_most(1)), at_most(1), [1, 1]))
        self.raises(TooMany("things", 16), one_asked, one, self.empty(2, at_most(1)))
        ones = with_rule(self.empty(8, at_most(1)), at_most(1), [1] * 8)
        self.assertEqual(one_asked(ones, with_rule(self.empty(2, at_most(1)), at_most(1), [1, 1])).firsts, (1,) * 16)
        rows = [Question(0, row) for row in list(product(range(2), repeat=8))[:64]]
        full = self.empty(8, never_running(), rows)
        self.assertEqual(len(one_asked(full, self.empty(2, never_running(), [Question(0, [0, 0])])).stock), 64)
        self.raises(TooMany("questions", 64), one_asked, full, self.empty(2, never_running(), [Question(0, [0, 1])]))


if __name__ == "__main__":
    unittest.main()
