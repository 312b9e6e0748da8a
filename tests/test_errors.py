"""truthwell.errors, truthwell.checks, truthwell.papers."""

import unittest

import truthwell.errors as errors
from truthwell.checks import is_integer
from truthwell.checks import is_name
from truthwell.checks import is_within
from truthwell.errors import Missing
from truthwell.errors import WellError
from truthwell.papers import Denial
from truthwell.papers import Paper
from truthwell.papers import fixed
from truthwell.freer import Freer
from truthwell.freer import NoFreer
from truthwell.order import OrderFree
from truthwell.order import Ordered

from helpers import BIG
from helpers import ODD

PART = ("BadRule BadPast BadQuestion BadStock BadWish BadCase BadSituation BadHearing BadList BadPlan BadPrices "
        "BadBars BadEvening BadStory BadNumber BadPaper").split()
VALUE = "NoThing NoAnswerer NoHeap NoStand NoQuestion NoAsked NoName".split()
OTHERS = {"Missing": ["value"], "Unlike": ["what"], "Twice": ["value"], "Dead": ["stand", "who", "true"],
          "Silent": [], "Barred": ["place"], "NotEven": [], "NotFading": ["thing"], "NotFreer": ["thing"],
          "Never": [], "Settled": [], "Late": ["asking"], "Unheard": ["asking"], "Heard": ["asking"],
          "Broken": ["asking"], "NoDeed": [], "TooMany": ["what", "most"], "BadText": ["line", "word"],
          "BadLine": ["line", "error"]}


def all_fields():
    fields = {name: ["part"] for name in PART}
    fields.update({name: ["value"] for name in VALUE})
    fields.update(OTHERS)
    return fields


class Errors(unittest.TestCase):
    def test_fields(self):
        for name, fields in all_fields().items():
            made = getattr(errors, name)
            values = [[], {"a": None}, BIG][:len(fields)]
            for error in (made(*values), made(**dict(zip(fields, values)))):
                with self.subTest(name=name):
                    self.assertEqual(vars(error), dict(zip(fields, values)))
                    for field, value in zip(fields, values):
                        self.assertIs(getattr(error, field), value)
                    self.assertIsInstance(error, WellError)
                    with self.assertRaises(made):
                        raise error

    def test_bases(self):
        self.assertEqual(WellError.__bases__, (ValueError,))
        self.assertEqual(vars(WellError()), {})
        for name in all_fields():
            base = Missing if name in VALUE else WellError
            self.assertEqual(getattr(errors, name).__bases__, (base,), name)

    def test_no_others(self):
        found = [name for name, value in vars(errors).items() if isinstance(value, type)]
        self.assertEqual(sorted(found), sorted(list(all_fields()) + ["WellError"]))

    def test_any_values(self):
        for value in ODD + [10 ** 5000]:
            self.assertIs(errors.NoStand(value).value, value)
            self.assertIs(errors.BadNumber(part=value).part, value)


class Integers(unittest.TestCase):
    def test_is_integer(self):
        for value in ODD:
            self.assertIs(is_integer(value), type(value) is int)

    def test_is_within(self):
        self.assertEqual([is_within(k, -1, 2) for k in range(-3, 5)], [False, False, True, True, True, True, False, False])
        self.assertEqual([is_within(k, None, 2) for k in (-BIG, 2, 3)], [True, True, False])
        self.assertEqual([is_within(k, 2, None) for k in (BIG, 2, 1)], [True, True, False])
        self.assertEqual([is_within(k, None, None) for k in (BIG, -BIG, True, None, 1.0, "1")], [True] * 2 + [False] * 4)
        self.assertFalse(is_within(True, 0, 2))
        for value in ODD:
            self.assertIs(is_within(value, 0, 2), type(value) is int and value in (0, 1, 2))

    def test_is_name(self):
        for name in ("a", "z", "a1", "abcdefghijkl", "z00000000000", "case"):
            self.assertIs(is_name(name), True, name)
        for name in ("", "1", "1a", "A", "aB", "a_", "a b", "abcdefghijklm", "\xe4", "a\xe4", "a\u0663", "a\n", " a", "-"):
            self.assertIs(is_name(name), False, name)
        for value in ODD:
            self.assertIs(is_name(value), value == "a" if isinstance(value, str) else False)


class Papers(unittest.TestCase):
    def test_fixed(self):
        self.assertEqual(fixed([1, [2, (3, [4, [5]])], {"a": [1]}, "x", None]), (1, (2, (3, (4, (5,)))), {"a": [1]}, "x", None))
        self.assertEqual([fixed([]), fixed(()), fixed(((), []))], [(), (), ((), ())])
        for value in ODD:
            if not isinstance(value, (list, tuple)):
                self.assertIs(fixed(value), value)
        deep = []
        for _ in range(59):
            deep = [deep, 1]
        wanted = ()
        for _ in range(59):
            wanted = (wanted, 1)
        self.assertEqual(fixed(deep), wanted)

    def test_attributes(self):
        for made in (Paper, Denial):
            paper = made("note", [1, [2]], None, {"a": [3]})
            self.assertEqual([paper.word, paper.parts], ["note", ((1, (2,)), None, {"a": [3]})])
            self.assertEqual(made("x").parts, ())
            self.assertEqual(made(word="x").word, "x")
        self.assertTrue(issubclass(Denial, Paper))

    def test_truth(self):
        self.assertIs(bool(Paper("x")), True)
        self.assertIs(bool(Denial("x", 1)), False)
        self.assertEqual([bool(NoFreer(())), bool(Freer(())), bool(OrderFree(())), bool(Ordered((), ()))],
                         [True, False, True, False])

    def test_classes(self):
        for made, word, names in ((NoFreer, "nofreer", ["pairs"]), (Freer, "freer", ["past"]),
                                  (OrderFree, "orderfree", ["stands"]), (Ordered, "ordered", ["past", "other"])):
            for value in ODD:
                values = [value, [value]][:len(names)]
                for paper in (made(*values), made(**dict(zip(names, values)))):
                    self.assertEqual(paper.word, word)
                    self.assertEqual(paper.parts, fixed(tuple(values)))
                    self.assertEqual([getattr(paper, name) for name in names], list(paper.parts))
            self.assertEqual(issubclass(made, Denial), made in (Freer, Ordered))
            self.assertTrue(issubclass(made, Paper))

    def test_equal(self):
        self.assertTrue(Paper("x", [1, [2]]) == Paper("x", (1, (2,))))
        self.assertFalse(Paper("x", 1) != Paper("x", 1))
        self.assertTrue(Paper("x", 1) == Paper("x", True))
        for other in (Paper("y", 1), Paper("x", 2), Paper("x"), Paper("x", 1, 1), Denial("x", 1), "x", None, ("x", (1,)), 1):
            self.assertFalse(Paper("x", 1) == other)
            self.assertTrue(Paper("x", 1) != other)
        self.assertFalse(NoFreer([]) == Paper("nofreer", []))
        self.assertFalse(Paper("nofreer", []) == NoFreer([]))
        self.assertFalse(Freer([]) == Denial("freer", []))
        self.assertTrue(Denial("freer", []) == Denial("freer", ()))
        self.assertTrue(NoFreer([[0, 1]]) == NoFreer(((0, 1),)))
        for other in (Denial("y", 1), Denial("x", 2), Denial("x"), Paper("x", 1), Ordered(1, 1), None):
            self.assertFalse(Denial("x", 1) == other)
            self.assertTrue(Denial("x", 1) != other)
        self.assertFalse(Freer([]) == NoFreer([]))

    def test_copied(self):
        pairs = [[0, 0]]
        paper = NoFreer(pairs)
        pairs[0][0] = 5
        pairs.append(1)
        self.assertEqual(paper.pairs, ((0, 0),))


if __name__ == "__main__":
    unittest.main()
