"""truthwell.again, truthwell.check_books: shows_again."""

import time
import unittest

from truthwell.again import Again
from truthwell.again import Contrary
from truthwell.again import again
from truthwell.again import contrary_signs
from truthwell.again import truth_frees
from truthwell.cases import Case
from truthwell.changed import picked
from truthwell.check_books import shows_again
from truthwell.depths import depth_of
from truthwell.errors import BadNumber
from truthwell.errors import BadRule
from truthwell.errors import NoStand
from truthwell.errors import NotEven
from truthwell.errors import Unlike
from truthwell.joined import either
from truthwell.papers import Denial
from truthwell.papers import Paper
from truthwell.questions import Question
from truthwell.ready import after_truths
from truthwell.ready import always_false
from truthwell.ready import anything
from truthwell.ready import at_most
from truthwell.ready import at_turns
from truthwell.ready import false_yes
from truthwell.ready import named_tells
from truthwell.ready import never_running
from truthwell.ready import one_in
from truthwell.ready import truthful
from truthwell.rules import Rule
from truthwell.stocks import Stock
from truthwell.wishes import Wish

from helpers import BIG
from helpers import Checks
from helpers import Draws
from helpers import ODD
from helpers import end_of
from helpers import is_int
from helpers import made_cases
from helpers import made_rules
from helpers import triples_of
from plain import contrary
from plain import freer_pairs
from plain import lawful_signs
from plain import reached_from

RUNS = never_running()


def even_rules():
    found = [truthful(), always_false(), anything(), at_most(1), at_most(2), RUNS, one_in(2), one_in(3), after_truths(1), after_truths(2),
             at_turns(2), at_turns(3), either(truthful(), always_false()), at_most(1, 2)]
    draws = Draws(271)
    for _ in range(40):
        stands = 1 + draws.below(4)
        rows = []
        for _ in range(stands):
            truth, lie = draws.below(stands), draws.below(stands)
            kind = draws.below(3)
            truth, lie = (truth if kind != 1 else None), (lie if kind != 2 else None)
            rows.append([truth, lie, lie, truth])
        found.append(Rule(1, 2, rows))
    return found


def shared_signs(rule, s, t, many):
    """All signs, one by one, T ahead of L."""
    theirs = lawful_signs(rule, t, many)
    return sorted((signs for signs in lawful_signs(rule, s, many) if contrary(signs) in theirs), reverse=True)


def lawful_end(rule, stand, signs):
    """The stand behind these signs, sign by sign, None if they are not lawful."""
    for sign in signs:
        if stand is not None:
            stand = end_of(rule, stand, [(0, 0, 0 if sign == "T" else 1)])
    return stand


def is_right_contrary(rule, s, t, signs, begin):
    if not isinstance(signs, str) or not signs or set(signs) - {"T", "L"} or not is_int(begin) or not 0 <= begin < len(signs):
        return False
    many = len(rule) ** 2 + 2
    whole = signs + signs[begin:] * many
    return lawful_end(rule, s, whole) is not None and lawful_end(rule, t, contrary(whole)) is not None


class AgainTest(Checks, unittest.TestCase):
    def test_against_all_signs(self):
        seen = set()
        for rule in even_rules():
            for s in range(len(rule)):
                for t in range(len(rule)):
                    found = again(rule, s, t)
                    seen.add(type(found))
                    self.assertTrue(shows_again(rule, s, t, found))
                    if found:
                        self.assertIsInstance(found, Again)
                        self.assertTrue(found.number == 0 or contrary_signs(rule, s, t, found.number - 1) is not None)
                        self.assertIsNone(contrary_signs(rule, s, t, found.number))
                    else:
                        self.assertTrue(is_right_contrary(rule, s, t, found.signs, found.begin))
                        self.assertIsNotNone(contrary_signs(rule, s, t, 60))
                    for many in range(6):
                        wanted = shared_signs(rule, s, t, many)
                        self.assertEqual(contrary_signs(rule, s, t, many), wanted[0] if wanted else None)
                        self.assertFalse(found and found.number <= many and wanted)
                        self.assertTrue(not found or found.number <= many or wanted)
        self.assertEqual(len(seen), 2)

    def test_depth(self):
        """Two things, one question that parts them: the depth is the number."""
        for rule in even_rules():
            if rule.answerers == 1:
                for s in range(len(rule)):
                    for t in range(len(rule)):
                        case = Case(Stock(2, 1, 2, [Question(0, [1, 0])]), rule, [s, t], Wish.each(2))
                        found = again(rule, s, t)
                        self.assertEqual(depth_of(case), found.number if found else None)

    def test_great(self):
        begun = time.time()
        self.assertEqual(again(at_most(63), 0, 0).number, 127)
        self.assertEqual(contrary_signs(at_most(63), 0, 0, 60), "T" * 60)
        self.assertEqual(contrary_signs(at_most(40), 30, 5, 45), "T" * 35 + "L" * 10)
        self.assertIsNone(contrary_signs(at_most(40), 30, 5, 46))
        self.assertIsInstance(again(one_in(64), 0, 0), Again)
        for many in (40, 64):
            self.assertTrue(shows_again(at_turns(many), 0, 0, again(at_turns(many), 0, 0)))
        self.assertLess(time.time() - begun, 5)

    def test_edges(self):
        self.assertEqual([again(truthful(), 0, 0).number, again(always_false(), 0, 0).number], [1, 1])
        self.assertEqual(again(anything(), 0, 0).parts, ("T", 0))
        turned = either(truthful(), always_false())
        self.assertEqual([again(turned, 0, 0).parts, again(turned, 1, 1).number, again(turned, 1, 2).parts], [("TT", 1), 1, ("T", 0)])
        self.assertEqual(contrary_signs(RUNS, 0, 0, 0), "")
        self.assertEqual(contrary_signs(rule=RUNS, stand=0, other=0, answers=3), "TLT")
        self.assertEqual([again(rule=at_most(1), stand=1, other=0).number, truth_frees(rule=RUNS, stand=1)], [2, None])

    def test_errors(self):
        for call in (lambda value: again(value, None, None), lambda value: contrary_signs(value, None, None, None), lambda value: truth_frees(value, None),
                     lambda value: shows_again(value, None, None, None)):
            self.odd(call, lambda value: BadRule("rule"))
        uneven = Rule(1, 3, [[0, 1, 0, 0, 0, 0, 0, 0, 0], [0] * 9])
        for call in (lambda value: again(uneven, value, None), lambda value: contrary_signs(uneven, value, None, None), lambda value: truth_frees(uneven, value),
                     lambda value: again(uneven, 1, value), lambda value: contrary_signs(uneven, 1, value, None), lambda value: shows_again(uneven, value, None, None),
                     lambda value: shows_again(uneven, 1, value, None)):
            self.odd_stand(call, 2, NoStand)
        for value in ODD + [61, -1]:
            if not (is_int(value) and 0 <= value <= 60):
                self.raises(BadNumber("answers"), contrary_signs, uneven, 0, 0, value)
        three = truthful(1, 3)
        for rule, error in ((uneven, NotEven()), (false_yes(1), NotEven()), (named_tells(2), NotEven()), (three, Unlike("heaps")), (anything(2, 3), Unlike("heaps"))):
            self.raises(error, again, rule, 0, 0)
            self.raises(error, contrary_signs, rule, 0, 0, 0)
            self.raises(error, shows_again, rule, 0, 0, None)


class ShowsAgain(Checks, unittest.TestCase):
    def test_numbers(self):
        for rule in even_rules():
            found = again(rule, 0, len(rule) - 1)
            for number in list(range(8)) + [-1, True, False, None, "1", 1.0, BIG]:
                wanted = bool(found) and is_int(number) and number == found.number
                self.assertIs(shows_again(rule, 0, len(rule) - 1, Again(number)), wanted)

    def test_signs(self):
        words = ["", "T", "L", "TL", "LT", "TLT", "LLT", "TTL", "TLTLTL", "LTTL", "T" * 9, "TLx", "tl", "T L", "LTLTL"]
        for rule in even_rules():
            for s in range(len(rule)):
                t = len(rule) - 1 - s
                for signs in words:
                    for begin in list(range(-1, len(signs) + 1)) + [None, True, False, "0", BIG]:
                        self.assertIs(shows_again(rule, s, t, Contrary(signs, begin)), is_right_contrary(rule, s, t, signs, begin))

    def test_ways_that_come_round_late(self):
        """The signs repeat, but the stands only behind some rounds, or they are barred then."""
        self.assertTrue(shows_again(at_turns(3), 0, 0, Contrary("TTT", 0)) is is_right_contrary(at_turns(3), 0, 0, "TTT", 0))
        self.assertFalse(shows_again(at_most(20), 0, 0, Contrary("TL", 0)))
        self.assertTrue(shows_again(at_turns(7), 6, 6, Contrary("T", 0)) is is_right_contrary(at_turns(7), 6, 6, "T", 0))
        free = Rule(1, 2, [[s + 1 if s < 5 else 0] * 4 for s in range(6)])
        self.assertTrue(shows_again(free, 0, 3, Contrary("TLTL", 1)))

    def test_long(self):
        begun = time.time()
        rule = Rule(1, 2, [[s + 1 if s < 63 else 0] * 4 for s in range(64)])
        self.assertTrue(shows_again(rule, 0, 5, Contrary("TL" * 20000, 1)))
        self.assertFalse(shows_again(at_most(63), 0, 5, Contrary("T" * 50000, 1)))
        self.assertLess(time.time() - begun, 10)

    def test_odd(self):
        for value in ODD:
            for paper in (value, Again(value), Contrary(value, 0), Contrary("TL", value), Contrary(value, value)):
                wanted = isinstance(paper, Contrary) and is_right_contrary(RUNS, 0, 0, *paper.parts)
                self.assertIs(shows_again(RUNS, 0, 0, paper), wanted)
        for value in (Denial("contrary", "TL", 0), Paper("again", 3), ("TL", 0), "TL", 3, Again("TL"), Again(None)):
            self.assertIs(shows_again(RUNS, 0, 0, value), False)
        self.assertIs(shows_again(rule=at_most(1), stand=0, other=0, value=Again(3)), True)

    def test_papers(self):
        self.assertEqual([Again(number=3).number, Again(3).word, bool(Again(3)), Again(3) == Again(3)], [3, "again", True, True])
        paper = Contrary(signs="TL", begin=1)
        self.assertEqual([paper.signs, paper.begin, paper.word, bool(paper), paper.parts], ["TL", 1, "contrary", False, ("TL", 1)])
        self.assertIsInstance(paper, Denial)


class TruthFrees(Checks, unittest.TestCase):
    def test_against_words(self):
        seen = set()
        for rule in even_rules() + made_rules(272, 60) + made_rules(273, 20, 2, 2) + made_rules(274, 10, 1, 3) + [named_tells(2), false_yes(2), named_tells(3)]:
            pairs = freer_pairs(rule, rule)
            for stand in range(len(rule)):
                wrong = []
                for met in sorted(reached_from(rule, stand)):
                    for who in range(rule.answerers):
                        for true in range(rule.heaps):
                            end = end_of(rule, met, [(who, true, true)])
                            if end is None or (met, end) not in pairs:
                                wrong.append((met, who, true))
                self.assertEqual(truth_frees(rule, stand), wrong[0] if wrong else None)
                seen.add(bool(wrong))
        self.assertEqual(len(seen), 2)

    def test_idle_questions(self):
        """If truth frees, leaving out the idle questions changes no depth."""
        many = 0
        for case in made_cases(275, 400, 3, 2, 2, 3, 3):
            idle = [number for number, question in enumerate(case.stock) if question.is_idle]
            if idle and all(truth_frees(case.rule, first) is None for first in case.firsts):
                other = picked(case, [number for number in range(len(case.stock)) if number not in idle])
                self.assertEqual(depth_of(case), depth_of(other))
                many += 1
        self.assertGreater(many, 20)
        turned = Case.alike(Stock.splits(2), either(truthful(), always_false()), Wish.each(2))
        self.assertEqual([depth_of(turned), depth_of(picked(turned, [1]))], [2, None])

    def test_other_rules_than_even_ones(self):
        self.assertEqual([truth_frees(false_yes(1), 0), truth_frees(named_tells(2), 1)], [None, (1, 0, 1)])
        self.assertEqual(len(triples_of(false_yes(1))), 4)


if __name__ == "__main__":
    unittest.main()
