"""truthwell.rules."""

import copy
import unittest
from itertools import product

from truthwell.errors import BadNumber
from truthwell.errors import BadRule
from truthwell.errors import BadText
from truthwell.errors import Dead
from truthwell.errors import NoAnswerer
from truthwell.errors import NoHeap
from truthwell.errors import NoStand
from truthwell.errors import TooMany
from truthwell.rules import Rule
from truthwell.words import integer_of

from helpers import BIG
from helpers import Checks
from helpers import Draws
from helpers import is_int
from helpers import made_rule
from helpers import made_rules

ROWS = [[0, 1, 1, 0], [0, None, None, 0]]


class Made(Checks, unittest.TestCase):
    def test_attributes(self):
        rule = Rule(1, 2, ROWS)
        self.assertEqual([rule.answerers, rule.heaps, rule.rows, len(rule), Rule.MOST, rule.MOST],
                         [1, 2, ((0, 1, 1, 0), (0, None, None, 0)), 2, 64, 64])
        self.assertEqual(Rule(answerers=1, heaps=2, rows=tuple(map(tuple, ROWS))), rule)

    def test_copied(self):
        rows = copy.deepcopy(ROWS)
        rule = Rule(1, 2, rows)
        self.assertEqual(rows, ROWS)
        rows[0][0] = 1
        rows.append([])
        self.assertEqual(rule, Rule(1, 2, ROWS))

    def test_numbers(self):
        self.odd(lambda value: Rule(value, 2, ROWS), lambda value: BadNumber("answerers"),
                 lambda value: is_int(value) and 1 <= value <= 4)
        self.odd(lambda value: Rule(1, value, ROWS), lambda value: BadNumber("heaps"), lambda value: is_int(value) and value == 2)
        for answerers, heaps in product((1, 4), (2, 3)):
            self.assertEqual(len(Rule(answerers, heaps, [[0] * answerers * heaps * heaps])), 1)
        for answerers in (0, 5):
            self.raises(BadNumber("answerers"), Rule, answerers, 7, None)
        for heaps in (1, 4):
            self.raises(BadNumber("heaps"), Rule, 1, heaps, None)

    def test_rows(self):
        self.odd(lambda value: Rule(1, 2, value), lambda value: BadRule("rows"),
                 lambda value: value in ([[0, 0, 0, 0]], [[0, None, None, 0]]))
        self.odd(lambda value: Rule(1, 2, [value]), lambda value: BadRule("rows"))
        self.odd(lambda value: Rule(1, 2, [[value, 0, 0, 0]]), lambda value: BadRule("rows"),
                 lambda value: value is None or is_int(value) and value == 0)
        for rows in ([[0, 0, 0]], [[0] * 5], [[0, 0, 0, 0], [0, 0, 0]], [[0, 0, 0, 1]], [[0, 0, 0, -1]], [[0, 0, 0, False]],
                     [[0] * 4, [0, 1, 2, 0]], [], (), [[]]):
            self.raises(BadRule("rows"), Rule, 1, 2, rows)
        self.raises(BadRule("rows"), Rule, 2, 2, [[0] * 4])
        self.raises(BadRule("rows"), Rule, 1, 3, [[0] * 8])

    def test_dead(self):
        self.raises(Dead(0, 0, 0), Rule, 1, 2, [[None] * 4])
        self.raises(Dead(0, 0, 1), Rule, 1, 2, [[0, 0, None, None], [None] * 4])
        self.raises(Dead(1, 0, 0), Rule, 1, 2, [[0, 0, 0, 0], [None, None, 0, 0]])
        row = [0] * 36
        row[2 * 9 + 3:2 * 9 + 6] = [None] * 3
        self.raises(Dead(0, 2, 1), Rule, 4, 3, [row])
        self.raises(Dead(1, 2, 1), Rule, 4, 3, [[0] * 36, row, [None] * 36])
        row[2 * 9 + 5] = 0
        self.assertEqual(Rule(4, 3, [row]).let(0, 2, 1), (2,))

    def test_dead_behind_rows(self):
        self.raises(BadRule("rows"), Rule, 1, 2, [[None] * 4, [0, 0, 0, 2]])

    def test_too_many(self):
        rows = [[stand, None, None, stand] for stand in range(65)]
        self.assertEqual(len(Rule(1, 2, rows[:64])), 64)
        self.raises(TooMany("stands", 64), Rule, 1, 2, rows)
        self.raises(BadRule("rows"), Rule, 1, 2, rows[:64] + [[65, None, None, 0]])
        self.raises(Dead(64, 0, 0), Rule, 1, 2, rows[:64] + [[None, None, None, 0]])

    def test_even(self):
        self.assertIs(Rule(1, 2, ROWS).is_even, True)
        self.assertIs(Rule(1, 2, [[0, None, 0, None]]).is_even, False)
        self.assertIs(Rule(1, 2, [[0, 1, 0, 0], [0] * 4]).is_even, False)
        self.assertIs(Rule(1, 2, [[0, 1, 1, 1], [0] * 4]).is_even, False)
        self.assertIs(Rule(2, 2, [[0, 1, 1, 0, 0, 1, 1, 0], [0] * 8]).is_even, True)
        self.assertIs(Rule(2, 2, [[0, 1, 1, 0, 1, 0, 0, 1], [0] * 8]).is_even, False)
        self.assertIs(Rule(1, 2, [[None, 0, 0, None]]).is_even, True)
        even = [0, 1, 1, 1, 0, 1, 1, 1, 0]
        self.assertIs(Rule(1, 3, [even, [0] * 9]).is_even, True)
        for place in range(9):
            self.assertIs(Rule(1, 3, [even[:place] + [1 - even[place]] + even[place + 1:], [0] * 9]).is_even, False)

    def test_equal(self):
        rule = Rule(1, 2, ROWS)
        self.assertTrue(rule == Rule(1, 2, ROWS))
        self.assertFalse(rule != Rule(1, 2, ROWS))
        for other in (Rule(1, 2, [[0] * 4]), Rule(2, 2, [[0] * 8]), None, 1, ROWS, rule.rows, str(rule)):
            self.assertFalse(rule == other)
            self.assertTrue(rule != other)


class Asked(Checks, unittest.TestCase):
    def test_behind_and_let(self):
        for rule in made_rules(1, 10, 2, 3) + made_rules(2, 10, 1, 2) + made_rules(3, 5, 4, 3):
            for stand, who, true in product(range(len(rule)), range(rule.answerers), range(rule.heaps)):
                begin = (who * rule.heaps + true) * rule.heaps
                entries = rule.rows[stand][begin:begin + rule.heaps]
                self.assertEqual([rule.behind(stand, who, true, told) for told in range(rule.heaps)], list(entries))
                self.assertEqual(rule.let(stand, who, true), tuple(g for g, entry in enumerate(entries) if entry is not None))

    def test_errors(self):
        rule = made_rule(Draws(4), 2, 3, 2)
        self.odd_stand(lambda value: rule.behind(value, 9, 9, 9), 2, NoStand)
        self.odd_stand(lambda value: rule.behind(0, value, 9, 9), 2, NoAnswerer)
        self.odd_stand(lambda value: rule.behind(0, 0, value, 9), 3, NoHeap)
        self.odd_stand(lambda value: rule.behind(0, 0, 0, value), 3, NoHeap)
        self.odd_stand(lambda value: rule.let(value, 9, 9), 2, NoStand)
        self.odd_stand(lambda value: rule.let(0, value, 9), 2, NoAnswerer)
        self.odd_stand(lambda value: rule.let(0, 0, value), 3, NoHeap)
        self.assertEqual(rule.behind(stand=1, who=1, true=2, told=0), rule.rows[1][15])
        self.assertEqual(rule.let(stand=1, who=1, true=2), rule.let(1, 1, 2))


class Texts(Checks, unittest.TestCase):
    def test_written_and_read(self):
        rules = made_rules(5, 60) + made_rules(6, 10, 4, 3, 5) + [made_rule(Draws(7), 4, 3, 64)]
        for rule in rules:
            again = Rule.read(str(rule))
            self.assertEqual(again, rule)
            self.assertEqual(str(again), str(rule))

    def test_no_string(self):
        self.odd(Rule.read, lambda value: BadText(0, 0), lambda value: isinstance(value, str))

    def test_words(self):
        for text, word in (("", 0), (" ", 0), ("1", 1), ("1 ", 1), ("0 2 | 0 0 0 0", 0), ("5 2", 0), ("01 2", 0), ("+1 2", 0),
                           ("1 1", 1), ("1 4", 1), ("1 2", 2), ("1 2 ", 2), ("1 2 0", 2), ("1 2 |", 3), ("1 2 | ", 3),
                           ("1 2 | 0 0 0", 6), ("1 2 | 0 0 0 0 ", 7), ("1 2 | 0 0 0 0 0", 7), ("1 2 | 0 0 0 0 -", 7),
                           ("1 2 | - -", 4), ("1 2 | - 0 - -", 6), ("1 2 | 64 0 0 0", 3), ("1 2 | 63 0 0 0", 7),
                           ("1 2 | 0 0 0 1", 7), ("1 2 | 0 0 0 2 | 0 0 0 0", 12), ("1 2 | 0 0 0 00", 6), ("1 2 | 0 0 0 -0", 6),
                           ("1 2 | 0 0 0 -1", 6), ("1 2 | 0 0 0 \u0660", 6), ("1 2 | 0 0 0 0 |", 8), ("1 2 |  0 0 0", 3),
                           ("1  2 | 0 0 0 0", 1), (" 1 2 | 0 0 0 0", 0), ("1 2 | 0 0 0 0\n", 6), ("1 2 | 0 0 0 " + "1" * 61, 6),
                           ("1 2 | 0 0 0 1 x", 7), ("1 2 | 0 0 0 0 ;", 7), ("1\t2 | 0 0 0 0", 0), ("1 3 | - - -", 5),
                           ("x", 0)):
            self.text_fault(text, word, Rule.read)
        self.assertEqual(Rule.read("1 3 | - - 0 - - 0 - - 0").rows, ((None, None, 0) * 3,))

    def test_many_stands(self):
        text = "1 2" + " | 0 0 0 0" * 64
        self.assertEqual(len(Rule.read(text)), 64)
        self.text_fault(text + " | 0 0 0 0", 2 + 64 * 5, Rule.read)
        self.text_fault(text + " 0", 2 + 64 * 5, Rule.read)
        named = "1 2" + " | 0 0 0 63" * 63
        self.text_fault(named, 2 + 63 * 5, Rule.read)
        self.assertEqual(len(Rule.read(named + " | - 63 63 -")), 64)

    def test_bent(self):
        """Against all texts of rules of one or two stands: the first word that none of them has there."""
        texts = list(small_texts())
        begins = {tuple(text[:k]) for text in texts for k in range(len(text) + 1)}
        wholes = {tuple(text) for text in texts}
        draws = Draws(8)
        for text in [texts[draws.below(len(texts))] for _ in range(60)] + texts[:9]:
            for at in range(len(text)):
                bent = [text[:at] + text[at + 1:], text[:at]]
                bent += [text[:at] + [word] + text[at + 1:] for word in ("0", "1", "-", "|", "", "2x")]
                bent += [text[:at] + [word] + text[at:] for word in ("0", "1", "-", "|", "")]
                for words in bent:
                    self.check_bent(words, begins, wholes)

    def check_bent(self, words, begins, wholes):
        words = words or [""]
        if words.count("|") > 2 or words[0] != "1" or words[1:2] != ["2"]:
            return
        if tuple(words) in wholes:
            self.assertEqual(str(Rule.read(" ".join(words))), " ".join(words))
            return
        wrong = [k for k in range(len(words)) if tuple(words[:k + 1]) not in begins]
        self.text_fault(" ".join(words), wrong[0] if wrong else len(words), Rule.read)


def small_texts():
    """The words of all rules of one answerer, two heaps, one or two stands."""
    for stands in (1, 2):
        entries = ["-"] + [str(k) for k in range(stands)]
        pairs = [pair for pair in product(entries, repeat=2) if pair != ("-", "-")]
        for told in product(pairs, repeat=2 * stands):
            words = ["1", "2"]
            for stand in range(stands):
                words += ["|", *told[2 * stand], *told[2 * stand + 1]]
            yield words


class Integers(unittest.TestCase):
    def test_integer_of(self):
        for number in (0, 5, -7, BIG // 10 ** 11, -(10 ** 59), 10 ** 60 - 1):
            self.assertEqual(integer_of(str(number)), number)
        for word in ("", "-", "00", "-0", "01", "-01", "+1", "1 ", " 1", "1_0", "0x1", "1.", str(10 ** 60), str(-10 ** 60), "\u0661"):
            self.assertIsNone(integer_of(word), word)


if __name__ == "__main__":
    unittest.main()
