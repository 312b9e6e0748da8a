"""truthwell.least_rule, truthwell.freer."""

import time
import unittest

from truthwell.errors import BadList
from truthwell.errors import BadRule
from truthwell.errors import NoStand
from truthwell.errors import Unlike
from truthwell.freer import Freer
from truthwell.freer import NoFreer
from truthwell.freer import compared
from truthwell.freer import freer_table
from truthwell.freer import shows_compared
from truthwell.joined import either
from truthwell.least_rule import least_form
from truthwell.least_rule import like_stands
from truthwell.least_rule import parting
from truthwell.papers import Denial
from truthwell.papers import Paper
from truthwell.ready import anything
from truthwell.ready import at_most
from truthwell.ready import never_running
from truthwell.ready import one_in
from truthwell.ready import truthful
from truthwell.rules import Rule

from helpers import BIG
from helpers import Checks
from helpers import Draws
from helpers import ODD
from helpers import end_of
from helpers import is_ok
from helpers import made_rule
from helpers import made_rules
from helpers import pasts_to
from helpers import triples_of

RUNS = never_running()


def first_past(one, s, other, t, either_way, most):
    """The first past that tells the stands apart, by trying them all."""
    for past in pasts_to(one, most):
        left, right = is_ok(one, s, past), is_ok(other, t, past)
        if left and not right or either_way and right and not left:
            return past
    return None


def pairs_met(one, s, other, t):
    """The pairs to which the lawful pasts from s lead, as they are met."""
    met = [(s, t)]
    for pair in met:
        for triple in triples_of(one):
            ends = (end_of(one, pair[0], [triple]), end_of(other, pair[1], [triple]))
            if ends[0] is not None and ends not in met:
                met.append(ends)
    return tuple(met)


def all_small_rules():
    """All rules of one answerer, two heaps, one stand, and many of two stands."""
    rules = made_rules(31, 60, most=2) + made_rules(32, 40)
    for text in ("0 - - 0", "- 0 0 -", "0 0 0 0", "0 - 0 -", "- 0 - 0", "0 0 0 -", "0 0 - 0", "0 - 0 0", "- 0 0 0"):
        rules.append(Rule.read("1 2 | " + text))
    return rules


class Like(Checks, unittest.TestCase):
    def test_like_stands(self):
        for rule in all_small_rules() + made_rules(33, 10, 2, 2) + made_rules(34, 5, 1, 2, 5):
            most = len(rule) - 1
            pasts = [frozenset(past for past in pasts_to(rule, most) if is_ok(rule, s, past)) for s in range(len(rule))]
            self.assertEqual(like_stands(rule), tuple(pasts.index(some) for some in pasts))

    def test_least_form(self):
        draws = Draws(35)
        for rule in all_small_rules() + made_rules(36, 20, 2, 2):
            likes = like_stands(rule)
            stands = [draws.below(len(rule)) for _ in range(1 + draws.below(4))]
            form, told = least_form(rule, stands)
            self.assertEqual(len(told), len(stands))
            self.assertEqual(like_stands(form), tuple(range(len(form))))
            for s, t in zip(stands, told):
                self.assertIsNone(parting(rule, s, form, t))
            wanted = []
            for s in stands:
                if likes[s] not in wanted:
                    wanted.append(likes[s])
            self.assertEqual([wanted.index(likes[s]) for s in stands], list(told))
            for s in wanted:
                for triple in triples_of(rule):
                    end = end_of(rule, s, [triple])
                    if end is not None and likes[end] not in wanted:
                        wanted.append(likes[end])
            self.assertEqual(form.rows, tuple(tuple(None if entry is None else wanted.index(likes[entry]) for entry in rule.rows[s])
                                              for s in wanted))

    def test_fact(self):
        rules = all_small_rules()
        for one, other in zip(rules, rules[7:]):
            s, t = len(one) - 1, len(other) - 1
            are_like = parting(one, s, other, t) is None
            self.assertEqual(least_form(one, [s]) == least_form(other, [t]), are_like)
        for rule in rules:
            self.assertEqual(least_form(either(rule, rule), [0]), least_form(rule, [0]))

    def test_tuples_and_repeats(self):
        rule = made_rule(Draws(37), 1, 2, 3)
        self.assertEqual(least_form(rule, (2, 2, 0)), least_form(rule, [2, 2, 0]))
        stands = [2, 0]
        least_form(rule=rule, stands=stands)
        self.assertEqual(stands, [2, 0])

    def test_errors(self):
        self.odd(like_stands, lambda value: BadRule("rule"))
        self.odd(lambda value: least_form(value, None), lambda value: BadRule("rule"))
        self.odd(lambda value: least_form(RUNS, value), lambda value: BadList("stands"),
                 lambda value: isinstance(value, (list, tuple)) and len(value) > 0)
        for value in ODD:
            if not (type(value) is int and value in (0, 1)):
                self.raises(NoStand(value), least_form, RUNS, [1, value, 99])


class Parting(Checks, unittest.TestCase):
    def test_against_search(self):
        rules = all_small_rules()
        for one, other in list(zip(rules, rules[5:])) + [(rule, rule) for rule in rules[::3]]:
            for s in range(len(one)):
                for t in range(len(other)):
                    wanted = first_past(one, s, other, t, True, min(5, len(one) + len(other) - 1))
                    self.assertEqual(parting(one, s, other, t), wanted)

    def test_two_answerers(self):
        rules = made_rules(38, 12, 2, 2) + made_rules(39, 1, 2, 2)
        for one, other in zip(rules, rules[1:]):
            found = parting(one, 0, other, 0)
            if found is None or len(found) <= 3:
                self.assertEqual(found, first_past(one, 0, other, 0, True, 3))

    def test_length(self):
        self.assertEqual(len(parting(at_most(63), 0, anything(), 0)), 64)
        self.assertEqual(len(parting(one_in(64), 0, one_in(63), 0)), 64)
        self.assertIsNone(parting(at_most(63), 5, at_most(58), 0))


class Freeness(Checks, unittest.TestCase):
    def test_against_search(self):
        rules = all_small_rules()
        for one, other in list(zip(rules, rules[11:])) + [(rule, rule) for rule in rules[::3]]:
            for s in range(len(one)):
                for t in range(len(other)):
                    self.check(one, s, other, t)

    def check(self, one, s, other, t):
        found = compared(one, s, other, t)
        wanted = first_past(one, s, other, t, False, 5)
        if wanted is not None:
            self.assertEqual(found, Freer(wanted))
        elif not found:
            # A first past of more triples than are tried out: at most as many as there are pairs.
            self.assertTrue(5 < len(found.past) <= len(one) * len(other))
            self.assertTrue(is_ok(one, s, found.past) and not is_ok(other, t, found.past))
        else:
            self.assertEqual(found, NoFreer(pairs_met(one, s, other, t)))
        self.assertTrue(shows_compared(one, s, other, t, found))

    def test_table(self):
        for rule in all_small_rules() + made_rules(40, 20, 2, 3):
            stands = range(len(rule))
            self.assertEqual(freer_table(rule), tuple(tuple(bool(compared(rule, s, rule, t)) for t in stands) for s in stands))

    def test_like_is_both_ways(self):
        for rule in all_small_rules():
            table, likes = freer_table(rule), like_stands(rule)
            for s in range(len(rule)):
                for t in range(len(rule)):
                    self.assertEqual(likes[s] == likes[t], table[s][t] and table[t][s])

    def test_plain(self):
        self.assertEqual(compared(truthful(), 0, anything(), 0), NoFreer([(0, 0)]))
        self.assertEqual(compared(anything(), 0, truthful(), 0), Freer([(0, 0, 1)]))
        self.assertEqual(compared(at_most(2), 1, at_most(2), 0).pairs, ((1, 0), (2, 1)))
        self.assertEqual(freer_table(at_most(2)), ((True, False, False), (True, True, False), (True, True, True)))

    def test_errors(self):
        calls = [parting, compared, lambda *told: shows_compared(*told, value=None)]
        for call in calls:
            self.odd(lambda value: call(value, 9, None, 9), lambda value: BadRule("rule"))
            self.odd_stand(lambda value: call(RUNS, value, None, 9), 2, NoStand)
            self.odd(lambda value: call(RUNS, 1, value, 9), lambda value: BadRule("other"))
            self.odd_stand(lambda value: call(RUNS, 1, at_most(1, 2, 3), value), 2, NoStand)
            self.raises(Unlike("answerers"), call, RUNS, 0, truthful(2, 3), 0)
            self.raises(Unlike("heaps"), call, RUNS, 0, truthful(1, 3), 0)
        self.odd(freer_table, lambda value: BadRule("rule"))
        self.assertEqual(compared(rule=RUNS, stand=1, other=RUNS, other_stand=0), NoFreer([(1, 0), (0, 0), (1, 1)]))
        self.assertEqual(parting(rule=RUNS, stand=1, other=RUNS, other_stand=0), ((0, 0, 1),))

    def test_large(self):
        begun = time.time()
        for seed in range(3):
            one, other = made_rule(Draws(seed + 60), 4, 3, 64, 1), made_rule(Draws(seed + 70), 4, 3, 64, 1)
            self.assertEqual(len(like_stands(one)), 64)
            self.assertEqual(len(least_form(one, list(range(64)))[0]), max(1, len(set(like_stands(one)))))
            self.assertIsNone(parting(one, 3, one, 3))
            found = compared(one, 0, other, 0)
            self.assertTrue(shows_compared(one, 0, other, 0, found))
        wide = Rule(4, 3, [[(k + 1) % 64] * 35 + [0 if k else 1] for k in range(64)])
        self.assertEqual(parting(wide, 0, wide, 1), None)
        self.assertEqual(like_stands(wide), (0,) * 64)
        rows = [[(k + place) % 64 for place in range(36)] for k in range(64)]
        rows[63][35] = None
        self.assertEqual(len(set(like_stands(Rule(4, 3, rows)))), 64)
        self.assertEqual(len(freer_table(Rule(4, 3, rows))), 64)
        long, longer = at_turns_only(61), at_turns_only(64)
        self.assertGreater(len(parting(long, 0, longer, 0)), 60)
        self.assertEqual(len(compared(one_in(64, 4, 3), 0, one_in(63, 4, 3), 0).pairs), 64)
        self.assertLess(time.time() - begun, 20)


def at_turns_only(many):
    """Truths go round; one lie in many answers is let, and leads on as a truth does."""
    return Rule(1, 2, [[(k + 1) % many, (k + 1) % many if k == many - 1 else None,
                        (k + 1) % many if k == many - 1 else None, (k + 1) % many] for k in range(many)])


class Shown(Checks, unittest.TestCase):
    def test_no_freer(self):
        one = one_in(3)
        right = [(0, 0), (2, 1), (1, 0)]
        for pairs in (right, right[::-1], [list(pair) for pair in right], [right[1], right[0], right[2]]):
            self.assertIs(shows_compared(one, 0, RUNS, 0, NoFreer(pairs)), True)
        self.assertIs(shows_compared(one, 2, RUNS, 1, NoFreer(right)), True)
        self.assertIs(shows_compared(one, 1, RUNS, 0, NoFreer(tuple(right))), True)
        for pairs in (right[:2], right[1:], right + [(0, 0)], right + [[0, 0]], right + [(0, 1)], right + [(3, 0)], right + [(0, 2)],
                      right + [(-1, 0)], right + [(0, True)], [(0, False)] + right[1:], right + [(0,)], right + [(0, 0, 0)],
                      right + [None], right + [0], [], (), None, 5, "00", {(0, 0): 1}, [[]], right + [(2, BIG)], [right]):
            self.assertIs(shows_compared(one, 0, RUNS, 0, NoFreer(pairs)), False, pairs)
        self.assertIs(shows_compared(one, 1, RUNS, 1, NoFreer(right)), False)
        self.assertIs(shows_compared(RUNS, 0, one, 0, NoFreer([(0, 0), (1, 2), (0, 1)])), False)
        self.assertIs(shows_compared(RUNS, 0, anything(), 0, NoFreer([(1, 0), (0, 0)])), True)

    def test_more_pairs(self):
        self.assertIs(shows_compared(at_most(2), 1, at_most(2), 0, NoFreer([(2, 2), (2, 1), (1, 0), (0, 0), (1, 1)])), True)

    def test_freer(self):
        one = one_in(3)
        lie, truth = (0, 0, 1), (0, 0, 0)
        for past in ((lie, truth, lie), [list(lie), truth, (0, 1, 0)], (truth, lie, (0, 1, 1), lie), (lie, truth, lie, truth)):
            self.assertIs(shows_compared(RUNS, 0, one, 0, Freer(past)), True)
        for past in ((), (lie,), (lie, lie), (lie, truth), (lie, truth, (0, 0, 2)), (lie, truth, (1, 0, 1)), (lie, truth, (0, 0, True)),
                     (lie, (0, 0, False), lie), (lie, truth, (0, 1)), (lie, truth, None), None, 7, "x", (lie, truth, lie, (0, 0, BIG)),
                     (lie, truth, lie, (-1, 0, 0)), (lie, truth, lie, lie), {}, [[]]):
            self.assertIs(shows_compared(RUNS, 0, one, 0, Freer(past)), False, past)
        self.assertIs(shows_compared(RUNS, 1, one, 0, Freer((lie, truth, lie))), False)
        self.assertIs(shows_compared(one, 0, RUNS, 0, Freer((lie, truth, lie))), False)

    def test_more_answerers_than_heaps(self):
        one, other = truthful(4), Rule(4, 2, [[0, None, None, 0] * 3 + [None, 0, 0, None]])
        self.assertEqual(compared(one, 0, other, 0), Freer([(3, 0, 0)]))
        self.assertIs(shows_compared(one, 0, other, 0, Freer([(2, 1, 1), (3, 1, 1)])), True)
        self.assertIs(shows_compared(one, 0, other, 0, Freer([(2, 1, 1), (4, 1, 1)])), False)

    def test_any_value(self):
        right = compared(one_in(3), 0, RUNS, 0)
        for value in ODD + [right.pairs, Paper("nofreer", right.pairs), Denial("freer", ()), [right], NoFreer, Freer]:
            self.assertIs(shows_compared(one_in(3), 0, RUNS, 0, value), False)
        for value in ODD:
            self.assertIs(shows_compared(RUNS, 0, RUNS, 1, NoFreer(value)), False)
            self.assertIs(shows_compared(RUNS, 0, RUNS, 1, Freer(value)), False)
            self.assertIs(shows_compared(RUNS, 0, RUNS, 1, NoFreer([value])), False)
            self.assertIs(shows_compared(RUNS, 0, RUNS, 1, Freer([value])), value == [0, 0, 1])

    def test_bent(self):
        """Papers of found answers, bent at one place, against the words of the document."""
        rules = all_small_rules()
        for one, other in list(zip(rules, rules[3:]))[::4]:
            found = compared(one, 0, other, 0)
            for bent in bent_rows(found.parts[0], len(one), len(other)):
                if found:
                    wanted = is_closed(one, other, bent)
                    self.assertEqual(shows_compared(one, 0, other, 0, NoFreer(bent)), wanted)
                else:
                    wanted = all(max(row) < 2 and row[0] == 0 and min(row) >= 0 for row in bent)
                    wanted = wanted and is_ok(one, 0, bent) and not is_ok(other, 0, bent)
                    self.assertEqual(shows_compared(one, 0, other, 0, Freer(bent)), wanted)


def bent_rows(rows, first, second):
    """The rows with one left out, one told twice, one number exchanged."""
    for at, row in enumerate(rows):
        yield rows[:at] + rows[at + 1:]
        yield rows[:at] + (row, row) + rows[at + 1:]
        for place in range(len(row)):
            for number in (-1, 0, 1, 2):
                yield rows[:at] + (row[:place] + (number,) + row[place + 1:],) + rows[at + 1:]


def is_closed(one, other, pairs):
    """As shows_compared tells of a NoFreer for stand 0 and stand 0."""
    if len(set(pairs)) != len(pairs) or (0, 0) not in pairs:
        return False
    if not all(0 <= s < len(one) and 0 <= t < len(other) for s, t in pairs):
        return False
    return all(left is None or (left, right) in pairs for s, t in pairs for left, right in zip(one.rows[s], other.rows[t]))


if __name__ == "__main__":
    unittest.main()
