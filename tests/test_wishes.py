"""truthwell.wishes."""

import unittest
from itertools import combinations
from itertools import product

from truthwell.errors import BadList
from truthwell.errors import BadNumber
from truthwell.errors import BadText
from truthwell.errors import BadWish
from truthwell.errors import NoThing
from truthwell.errors import TooMany
from truthwell.errors import Unlike
from truthwell.wishes import Wish

from helpers import BIG
from helpers import Checks
from helpers import ODD
from helpers import is_int


def is_classes(value):
    return isinstance(value, (list, tuple)) and len(value) > 0 and all(is_int(told) for told in value)


def is_most(value):
    return is_int(value) and 1 <= value <= 16


class Made(Checks, unittest.TestCase):
    def test_classes(self):
        for told, classes in (([7, 2, 2], (0, 1, 1)), ([5], (0,)), ((BIG, -BIG, 0, BIG), (0, 1, 2, 0)), ([0, 1, 0, 2, 1], (0, 1, 0, 2, 1)),
                              ([3] * 16, (0,) * 16), (list(range(16, 0, -1)), tuple(range(16)))):
            for wish in (Wish(told), Wish.of(told), Wish(classes=told), Wish.of(classes=told)):
                self.assertEqual([wish.classes, wish.most], [classes, None])

    def test_numbers(self):
        for most in range(1, 17):
            for wish in (Wish(None, most), Wish.left(most), Wish(most=most), Wish.left(most=most)):
                self.assertEqual([wish.classes, wish.most], [None, most])
        for things in range(1, 17):
            self.assertEqual(Wish.each(things), Wish.of(list(range(things))))

    def test_copied(self):
        classes = [4, 5]
        wish = Wish(classes)
        classes[0] = 5
        self.assertEqual(wish.classes, (0, 1))

    def test_errors(self):
        self.odd(lambda value: Wish(value, "x"), lambda value: BadWish("classes"), lambda value: value is None or is_classes(value))
        self.odd(lambda value: Wish(None, value), lambda value: BadNumber("most"), lambda value: value is None or is_most(value))
        self.odd(lambda value: Wish([1], value), lambda value: BadNumber("most"), lambda value: value is None or is_most(value))
        self.raises(BadWish("wish"), Wish)
        self.raises(BadWish("wish"), Wish, None, None)
        self.raises(BadWish("wish"), Wish, [0, 1], 1)
        self.raises(BadWish("wish"), Wish, [0] * 17, 1)
        self.raises(BadNumber("most"), Wish, [0] * 17, 17)
        self.raises(TooMany("things", 16), Wish, [0] * 17)
        self.raises(TooMany("things", 16), Wish.of, [0] * 17)
        self.raises(BadWish("classes"), Wish.of, [0] * 17 + [True])
        for most in (0, 17):
            self.raises(BadNumber("most"), Wish, None, most)
            self.raises(BadNumber("most"), Wish.left, most)
            self.raises(BadNumber("things"), Wish.each, most)
        self.odd(Wish.of, lambda value: BadWish("classes"), is_classes)
        self.odd(Wish.left, lambda value: BadNumber("most"), is_most)
        self.odd(Wish.each, lambda value: BadNumber("things"), is_most)

    def test_equal(self):
        self.assertTrue(Wish.of([1, 2]) == Wish.of((9, -9)))
        self.assertFalse(Wish.of([1, 2]) != Wish.of([3, 4]))
        self.assertTrue(Wish.left(2) == Wish(None, 2))
        for other in (Wish.of([1, 1]), Wish.of([1, 2, 2]), Wish.left(2), None, (0, 1), "classes 0 1"):
            self.assertTrue(Wish.of([1, 2]) != other)
            self.assertFalse(Wish.of([1, 2]) == other)
        self.assertFalse(Wish.left(1) == Wish.left(2))


class Groups(Checks, unittest.TestCase):
    def test_groups(self):
        for classes in list(product(range(3), repeat=4)) + [(0,), (0, 0), (0, 1), tuple(range(16))]:
            wish = Wish.of(classes)
            pairs = tuple(pair for pair in combinations(range(len(classes)), 2) if classes[pair[0]] != classes[pair[1]])
            self.assertEqual(wish.groups(len(classes)), pairs)
        for things, most in product(range(1, 9), range(1, 17)):
            self.assertEqual(Wish.left(most).groups(things), tuple(combinations(range(things), most + 1)))
        self.assertEqual(len(Wish.left(7).groups(16)), 12870)
        self.assertEqual([Wish.left(16).groups(16), Wish.left(15).groups(16)], [(), (tuple(range(16)),)])

    def test_is_met(self):
        for classes in product(range(3), repeat=4):
            wish = Wish.of(classes)
            groups = wish.groups(4)
            for length in range(4):
                for some in product(range(4), repeat=length):
                    self.assertIs(wish.is_met(some), not any(set(group) <= set(some) for group in groups))
        for most in range(1, 5):
            groups = Wish.left(most).groups(4)
            for length in range(5):
                for some in product(range(4), repeat=length):
                    self.assertIs(Wish.left(most).is_met(list(some)), not any(set(group) <= set(some) for group in groups))
        self.assertIs(Wish.left(1).is_met([15, 15, 15]), True)
        self.assertIs(Wish.left(16).is_met(list(range(16))), True)

    def test_errors(self):
        wish = Wish.of([0, 1, 1])
        for one in (wish, Wish.left(2)):
            self.odd(one.groups, lambda value: BadNumber("things"), is_most)
            for things in (0, 17):
                self.raises(BadNumber("things"), one.groups, things=things)
            self.odd(one.is_met, lambda value: BadList("some"), lambda value: isinstance(value, (list, tuple)))
        for things in (1, 2, 4, 16):
            self.raises(Unlike("things"), wish.groups, things)
        self.odd_stand(lambda value: wish.is_met([2, value, 99]), 3, lambda value: NoThing(value))
        self.odd_stand(lambda value: Wish.left(2).is_met((15, value, 99)), 16, lambda value: NoThing(value))
        self.raises(NoThing(3), wish.is_met, [0, 3, -1])
        self.raises(NoThing(16), Wish.left(3).is_met, [0, 16, -1])
        self.raises(NoThing(99), wish.is_met, some=[1, 2, 99])


class Texts(Checks, unittest.TestCase):
    def test_written_and_read(self):
        for wish, text in ((Wish.left(16), "most 16"), (Wish.left(1), "most 1"), (Wish.of([7, 2, 2]), "classes 0 1 1"),
                           (Wish.of([4]), "classes 0"), (Wish.each(16), "classes " + " ".join(map(str, range(16))))):
            self.assertEqual(str(wish), text)
            self.assertEqual(Wish.read(text), wish)

    def test_words(self):
        for text, word in (("", 0), ("class 0", 0), ("most", 1), ("most ", 1), ("most 0", 1), ("most 17", 1), ("most 01", 1), ("most -1", 1),
                           ("most 1 1", 2), ("most 1 ", 2), ("classes", 1), ("classes ", 1), ("classes 1", 1), ("classes -1", 1),
                           ("classes 0 2", 2), ("classes 0 1 3", 3), ("classes 0 1 1 0 2 4", 6), ("classes 0 0 ", 3), ("classes 0 -", 2),
                           ("classes  0", 1), (" classes 0", 0), ("classes 0 most", 2), ("Most 1", 0), ("most 1\n", 1), ("0", 0),
                           ("classes" + " 0" * 17, 17), ("classes 0 " + "1" * 61, 2)):
            self.text_fault(text, word, Wish.read)
        self.assertEqual(len(Wish.read("classes" + " 0" * 16).classes), 16)

    def test_any_value(self):
        for value in ODD:
            self.raises(BadText(0, 0), Wish.read, value)


if __name__ == "__main__":
    unittest.main()
