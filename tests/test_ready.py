"""truthwell.ready: each rule by plain words, over all answers."""

import unittest
from itertools import product

from truthwell.errors import BadNumber
from truthwell.pasts import is_lawful
from truthwell.ready import after_truths
from truthwell.ready import always_false
from truthwell.ready import anything
from truthwell.ready import at_most
from truthwell.ready import at_turns
from truthwell.ready import false_yes
from truthwell.ready import named_tells
from truthwell.ready import never_running
from truthwell.ready import one_in
from truthwell.ready import truthful
from truthwell.rules import Rule

from helpers import Checks
from helpers import is_int
from helpers import pasts_to

PLAIN = (truthful, always_false, anything, never_running)
COUNTED = ((at_most, "lies", 0, 63), (one_in, "many", 1, 64), (after_truths, "many", 0, 63), (at_turns, "many", 1, 64))


def by_words(words, count):
    """Whether the signs of a past are right, by plain words."""
    return {
        "truthful": lambda signs: "L" not in signs,
        "always_false": lambda signs: "T" not in signs,
        "anything": lambda signs: True,
        "never_running": lambda signs: "LL" not in signs,
        "at_most": lambda signs: signs.count("L") <= count,
        "one_in": lambda signs: all(signs[k:k + count].count("L") <= 1 for k in range(len(signs))),
        "after_truths": lambda signs: "L" not in signs[:count],
        "at_turns": lambda signs: all((k + 1) % count == 0 for k, sign in enumerate(signs) if sign == "L"),
    }[words]


class Ready(Checks, unittest.TestCase):
    def check(self, rule, is_right, most):
        for past in pasts_to(rule, most):
            self.assertEqual(is_lawful(rule, 0, past), is_right(past), past)

    def check_signs(self, rule, is_right, most):
        self.assertIs(rule.is_even, True)
        self.check(rule, lambda past: is_right("".join("T" if b == c else "L" for a, b, c in past)), most)

    def test_plain_words(self):
        for made in PLAIN:
            self.check_signs(made(), by_words(made.__name__, None), 5)
            self.check_signs(made(2, 2), by_words(made.__name__, None), 3)
            self.check_signs(made(1, 3), by_words(made.__name__, None), 3)
        for made, name, least, most in COUNTED:
            for count in range(least, 5):
                self.check_signs(made(count), by_words(made.__name__, count), 5)
                self.check_signs(made(count, 2, 2), by_words(made.__name__, count), 3)
                self.check_signs(made(count, heaps=3), by_words(made.__name__, count), 3)

    def test_stands(self):
        self.assertEqual([str(made()) for made in PLAIN],
                         ["1 2 | 0 - - 0", "1 2 | - 0 0 -", "1 2 | 0 0 0 0", "1 2 | 0 1 1 0 | 0 - - 0"])
        self.assertEqual([str(made(least)) for made, name, least, most in COUNTED],
                         ["1 2 | 0 - - 0", "1 2 | 0 0 0 0", "1 2 | 0 0 0 0", "1 2 | 0 0 0 0"])
        self.assertEqual(str(at_most(2)), "1 2 | 0 1 1 0 | 1 2 2 1 | 2 - - 2")
        self.assertEqual(str(one_in(4)), "1 2 | 0 3 3 0 | 0 - - 0 | 1 - - 1 | 2 - - 2")
        self.assertEqual(str(after_truths(2)), "1 2 | 1 - - 1 | 2 - - 2 | 2 2 2 2")
        self.assertEqual(str(at_turns(3)), "1 2 | 1 - - 1 | 2 - - 2 | 0 0 0 0")
        self.assertEqual(str(false_yes(0)), "1 2 | 0 - - 0")
        self.assertEqual(str(false_yes(2)), "1 2 | 0 1 - 0 | 1 2 - 1 | 2 - - 2")
        self.assertEqual([len(made(most)) for made, name, least, most in COUNTED], [64] * 4)
        self.assertEqual([len(false_yes(63)), len(named_tells()), len(named_tells(3))], [64, 3, 4])

    def test_false_yes(self):
        for lies, answerers in product(range(4), (1, 2)):
            rule = false_yes(lies, answerers)
            self.assertEqual([rule.answerers, rule.heaps, rule.is_even], [answerers, 2, lies == 0])
            self.check(rule, lambda past: all(b == c or c == 1 for a, b, c in past)
                       and sum(b != c for a, b, c in past) <= lies, 4 if answerers == 1 else 3)
        self.assertEqual(false_yes(lies=1, answerers=4).answerers, 4)

    def test_named_tells(self):
        for heaps in (2, 3):
            rule = named_tells(heaps)
            self.assertEqual([rule.answerers, rule.heaps], [heaps, heaps])
            self.check(rule, lambda past: all(past[k][1] == past[k][2] for k in range(1, len(past)) if past[k - 1][2] == past[k][0]),
                       4 if heaps == 2 else 2)
        self.assertEqual(named_tells(), named_tells(heaps=2))
        self.assertEqual(str(named_tells()), "2 2 | 1 2 1 2 1 2 1 2 | 1 - - 2 1 2 1 2 | 1 2 1 2 1 - - 2")

    def test_sizes(self):
        for made in PLAIN:
            for answerers, heaps in product(range(1, 5), (2, 3)):
                rule = made(answerers=answerers, heaps=heaps)
                self.assertEqual([rule.answerers, rule.heaps], [answerers, heaps])
                self.assertEqual(made(answerers, heaps), rule)
        for made, name, least, most in COUNTED:
            for answerers, heaps in product(range(1, 5), (2, 3)):
                rule = made(**{name: least + 1, "answerers": answerers, "heaps": heaps})
                self.assertEqual([rule.answerers, rule.heaps], [answerers, heaps])
                self.assertEqual(made(least + 1, answerers, heaps), rule)
            self.assertIsInstance(made(most, 4, 3), Rule)

    def test_errors(self):
        for made in PLAIN:
            self.odd(lambda value: made(value, 9), lambda value: BadNumber("answerers"), lambda value: is_int(value) and 1 <= value <= 4)
            self.odd(lambda value: made(1, value), lambda value: BadNumber("heaps"), lambda value: is_int(value) and value == 2)
            self.raises(BadNumber("answerers"), made, 5)
            self.raises(BadNumber("heaps"), made, 4, 4)
        for made, name, least, most in COUNTED + ((false_yes, "lies", 0, 63),):
            self.odd(lambda value: made(value, 9), lambda value: BadNumber(name), lambda value: is_int(value) and least <= value <= most)
            self.odd(lambda value: made(2, value), lambda value: BadNumber("answerers"), lambda value: is_int(value) and 1 <= value <= 4)
            for count in (least - 1, most + 1):
                self.raises(BadNumber(name), made, count)
        for made, name, least, most in COUNTED:
            self.odd(lambda value: made(2, 1, value), lambda value: BadNumber("heaps"), lambda value: is_int(value) and value == 2)
        self.odd(named_tells, lambda value: BadNumber("heaps"), lambda value: is_int(value) and value == 2)


if __name__ == "__main__":
    unittest.main()
