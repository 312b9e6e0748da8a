"""truthwell.books, truthwell.rings, truthwell.check_books: books and rings."""

import time
import unittest

from truthwell.books import Book
from truthwell.books import carried_book
from truthwell.books import find_book
from truthwell.books import hearing_by
from truthwell.books import least_book
from truthwell.books import put_together
from truthwell.cases import Case
from truthwell.check_books import shows_book
from truthwell.check_books import shows_ring
from truthwell.depths import depth_of
from truthwell.depths import find_plan
from truthwell.errors import BadCase
from truthwell.errors import BadList
from truthwell.errors import BadNumber
from truthwell.errors import BadPaper
from truthwell.errors import NoQuestion
from truthwell.errors import NotFreer
from truthwell.errors import TooMany
from truthwell.errors import Unlike
from truthwell.papers import Denial
from truthwell.papers import Paper
from truthwell.plans import Plan
from truthwell.questions import Question
from truthwell.ready import anything
from truthwell.ready import at_most
from truthwell.ready import never_running
from truthwell.ready import one_in
from truthwell.ready import truthful
from truthwell.rings import Ring
from truthwell.rings import find_ring
from truthwell.rings import judged
from truthwell.rings import unrolled
from truthwell.rules import Rule
from truthwell.stocks import Stock
from truthwell.two_cases import two_asked
from truthwell.wishes import Wish

from bends import bends
from bends import listed
from bends import some_bends
from helpers import BIG
from helpers import Checks
from helpers import Draws
from helpers import ODD
from helpers import is_int
from helpers import made_cases
from plain import above
from plain import all_depths
from plain import answers
from plain import behind
from plain import freer_pairs
from plain import no_freer
from plain import numbers_of
from plain import right_book
from plain import right_plan
from plain import right_ring
from plain import settled
from test_carried import less_free
from test_depths import FULL
from test_depths import chain
from test_depths import ready_cases

PAIR = Case.alike(Stock.splits(2), at_most(1), Wish.each(2))
NEVER = Case.alike(Stock.splits(2), never_running(), Wish.each(2))
BOOK = find_book(PAIR, 2)
RING = find_ring(NEVER)
MANY = TooMany("layer", 300)


def cases():
    return made_cases(251, 60) + made_cases(252, 40, 3, 1, 2, 2) + made_cases(253, 15, 3, 1, 3) + ready_cases()[::2]


def full_layers(case, known, most):
    """By the words of the document."""
    layers = []
    level = [case.firsts]
    for left in range(most, -1, -1):
        rows, following = [], set()
        for situation in sorted(level):
            told = []
            if left > 0:
                for number in numbers_of(case):
                    heap, new = [(heap, new) for heap, new in answers(case, situation, number) if above(known[new], left - 1)][0]
                    told.append(heap)
                    following.add(new)
            rows.append((situation, tuple(told)))
        layers.append(tuple(rows))
        level = following
    return tuple(layers)


def full_table(case, known):
    table = {}
    level = [case.firsts]
    for situation in level:
        told = []
        for number in numbers_of(case):
            heap, new = [(heap, new) for heap, new in answers(case, situation, number) if known[new] is None][0]
            told.append(heap)
            if new not in level:
                level.append(new)
        table[situation] = tuple(told)
    return tuple(sorted(table.items()))


def wide_case(lies, questions):
    """Many situations that stay open: books with long layers."""
    stock = Stock.splits(4)
    return Case.alike(Stock(4, 1, 2, stock.questions[:questions]), at_most(lies), Wish.each(4))


class FindBook(Checks, unittest.TestCase):
    def test_against_words(self):
        many = 0
        for case in cases():
            known = all_depths(case)
            depth = known[case.firsts]
            for most in (0, 1, 2, 3, 5):
                book = find_book(case, most)
                if not above(depth, most):
                    self.assertIsNone(book)
                    self.assertIsNone(least_book(case, most))
                    continue
                many += 1
                self.assertEqual(book, Book(full_layers(case, known, most)))
                self.assertTrue(right_book(case, book.layers, most))
                self.assertTrue(shows_book(case, book, most))
        self.assertGreater(many, 150)

    def test_one_of_both(self):
        """For each number there is a plan or a book."""
        for case in cases()[::2]:
            for most in range(13):
                plan, book = find_plan(case, most), find_book(case, most)
                self.assertEqual([plan is None, book is None].count(True), 1)

    def test_least_book(self):
        shorter = 0
        for case in cases():
            pairs = freer_pairs(case.rule, case.rule)
            for most in (0, 1, 2, 4):
                book = least_book(case, most)
                if book is None:
                    continue
                self.assertIsInstance(book, Book)
                self.assertTrue(right_book(case, book.layers, most))
                for layer, full in zip(book.layers, find_book(case, most).layers):
                    shorter += len(layer) < len(full)
                    for one in layer:
                        self.assertFalse(any(one != other and no_freer(pairs, other[0], one[0]) for other in layer))
                self.assertEqual(least_book(case, most), book)
        self.assertGreater(shorter, 10)

    def test_like_stands(self):
        rule = Rule(1, 2, [[1, 2, 2, 1], [0, 2, 2, 0], [2, None, None, 2]])
        case = Case.alike(Stock(3, 1, 2, [Question(0, [0, 1, 1]), Question(0, [0, 0, 1])]), rule, Wish.each(3))
        for most in range(4):
            book = least_book(case, most)
            self.assertEqual(book is None, not above(depth_of(case), most))
            if book is not None:
                self.assertTrue(right_book(case, book.layers, most))

    def test_edges(self):
        empty = Case.alike(Stock(2, 1, 2, []), truthful(), Wish.each(2))
        self.assertEqual(find_book(empty, 2).layers, ((((0, 0), ()),), (), ()))
        self.assertEqual(least_book(empty, 0).layers, ((((0, 0), ()),),))
        self.assertEqual([find_ring(empty).table, judged(empty)], [(((0, 0), ()),), Ring([((0, 0), ())])])
        self.assertIsNone(find_book(Case.alike(Stock(2, 1, 2, []), truthful(), Wish.left(2)), 0))
        self.assertEqual(len(find_book(NEVER, 12).layers), 13)
        self.assertEqual(find_book(case=PAIR, most=2), BOOK)
        self.assertEqual(least_book(case=PAIR, most=3), None)

    def test_errors(self):
        for call in (find_book, least_book):
            self.odd(lambda value: call(value, None), lambda value: BadCase("case"))
            for value in ODD + [13, 14]:
                if not (is_int(value) and 0 <= value <= 12):
                    self.raises(BadNumber("most"), call, PAIR, value)
        for call in (find_ring, judged):
            self.odd(call, lambda value: BadCase("case"))

    def test_too_many_situations(self):
        full, more = chain([0, 0, 0, 0]), chain([0, 0, 63, 0])
        self.assertEqual([len(find_book(full, 12).layers), find_ring(full)], [13, None])
        for call in (lambda: find_book(more, 12), lambda: least_book(more, 0), lambda: find_ring(more), lambda: judged(more)):
            self.raises(FULL, call)
        self.raises(BadNumber("most"), find_book, more, 13)

    def test_too_many_entries(self):
        begun = time.time()
        for case in (wide_case(6, 4), Case.alike(Stock.singles(4), one_in(5), Wish.each(4))):
            known = all_depths(case)
            for most in (3, 4, 5, 6, 7):
                if above(known[case.firsts], most):
                    longest = max(len(layer) for layer in full_layers(case, known, most))
                    if longest > 300:
                        self.raises(MANY, find_book, case, most)
                    else:
                        self.assertEqual(max(len(layer) for layer in find_book(case, most).layers), longest)
        self.assertLess(time.time() - begun, 20)

    def steps_case(self, ends):
        """For each thing a question that leads it one stand on, up to its end; nothing is ever told."""
        rows = []
        for end in ends:
            begin = len(rows)
            rows += [[begin + min(s + 1, end)] * 2 + [begin + s] * 2 for s in range(end + 1)]
        firsts = [sum(end + 1 for end in ends[:at]) for at in range(len(ends))]
        questions = [Question(0, [0 if thing == number else 1 for thing in range(len(ends))]) for number in range(len(ends))]
        return Case(Stock(len(ends), 1, 2, questions), Rule(1, 2, rows), firsts, Wish.each(len(ends)))

    def test_layers_of_300(self):
        full, more = self.steps_case((1, 4, 8, 8)), self.steps_case((2, 5, 5, 5))
        self.assertEqual([len(layer) for layer in find_book(full, 11).layers][-1], 300)
        self.assertEqual(len(find_book(more, 10).layers), 11)
        self.raises(MANY, find_book, more, 11)
        # All stands let the same: one situation stands for all others.
        self.assertEqual([len(layer) for layer in least_book(more, 11).layers], [1] * 12)
        self.raises(MANY, find_ring, more)
        book = find_book(full, 11)
        self.assertTrue(shows_book(full, book, 11) and shows_book(full, carried_book(full, book, full), 11))

    def round_case(self, one, other):
        """Two things whose stands go round by themselves, in rings of so many of them."""
        rows = [[s + 1 if s + 1 < one else 0] * 4 for s in range(one)]
        rows += [[one + (t + 1 if t + 1 < other else 0)] * 4 for t in range(other)]
        return Case(Stock(2, 1, 2, [Question(0, [0, 1])]), Rule(1, 2, rows), [0, one], Wish.each(2))

    def test_rings_of_300(self):
        case = self.round_case(25, 12)
        ring = find_ring(case)
        self.assertEqual(len(ring.table), 300)
        self.assertEqual(judged(case), ring)
        self.assertTrue(shows_ring(case, ring))
        self.assertEqual(len(unrolled(case, ring, 2).layers[1]), 300)
        for call in (find_ring, judged):
            self.raises(MANY, call, self.round_case(43, 7))
            self.assertEqual(len(call(self.round_case(20, 15)).table), 60)


class HearingBy(Checks, unittest.TestCase):
    def by_words(self, case, layers, numbers):
        pairs = freer_pairs(case.rule, case.rule)
        left, hearing = case.firsts, []
        for at, number in enumerate(numbers):
            layer = layers[at] if at < len(layers) else layers[0]
            told = [row for situation, row in layer if no_freer(pairs, situation, left)][0][number]
            self.assertIn(told, dict(answers(case, left, number)))
            left = behind(case, left, case.stock.questions[number], told)
            hearing.append(told)
        self.assertFalse(settled(case, left))
        return tuple(hearing)

    def test_books(self):
        draws = Draws(254)
        for case in cases():
            if not len(case.stock):
                continue
            for most in (1, 3):
                for book in (find_book(case, most), least_book(case, most)):
                    if book is not None:
                        for _ in range(4):
                            numbers = [draws.below(len(case.stock)) for _ in range(draws.below(most + 1))]
                            self.assertEqual(hearing_by(case, book, numbers), self.by_words(case, book.layers, numbers))

    def test_rings(self):
        draws = Draws(255)
        for case in cases():
            ring = find_ring(case)
            if ring is not None and len(case.stock):
                for length in (0, 1, 7):
                    numbers = tuple(draws.below(len(case.stock)) for _ in range(length))
                    self.assertEqual(hearing_by(case, ring, numbers), self.by_words(case, [ring.table], numbers))

    def test_long(self):
        self.assertEqual(len(hearing_by(NEVER, RING, [0, 1] * 3000)), 6000)
        self.assertEqual(hearing_by(NEVER, RING, []), ())
        self.assertEqual(hearing_by(case=PAIR, paper=BOOK, numbers=[1]), (0,))

    def test_errors(self):
        self.odd(lambda value: hearing_by(value, None, None), lambda value: BadCase("case"))
        wrong = [RING, Book(BOOK.layers[:2]), Book(BOOK.layers[::-1]), Ring(BOOK.layers[0]), Denial("book", BOOK.layers), Plan(BOOK.layers),
                 find_plan(PAIR), Book([]), Denial("ring", RING.table)]
        for value in ODD + wrong:
            self.raises(BadPaper("paper"), hearing_by, PAIR, value, None)
        for value in (Denial("ring", RING.table), Paper("ring", RING.table), Ring(RING.table[:1]), RING.table):
            self.raises(BadPaper("paper"), hearing_by, NEVER, value, None)
        self.odd(lambda value: hearing_by(PAIR, BOOK, value), lambda value: BadList("numbers"), lambda value: isinstance(value, (list, tuple)))
        self.odd_stand(lambda value: hearing_by(PAIR, BOOK, [0, value, 0, 0]), 2, NoQuestion)
        self.raises(TooMany("numbers", 2), hearing_by, PAIR, BOOK, [0, 0, 1])
        self.raises(TooMany("numbers", 0), hearing_by, PAIR, find_book(PAIR, 0), [0])
        self.raises(NoQuestion(7), hearing_by, PAIR, BOOK, [0, 0, 7])
        self.assertEqual(hearing_by(PAIR, find_book(PAIR, 0), []), ())


class Rings(Checks, unittest.TestCase):
    def test_against_words(self):
        never = 0
        for case in cases():
            known = all_depths(case)
            ring = find_ring(case)
            if known[case.firsts] is not None:
                self.assertIsNone(ring)
                self.assertEqual(judged(case), find_plan(case))
                self.assertTrue(right_plan(case, judged(case).table))
                continue
            never += 1
            self.assertEqual(ring, Ring(full_table(case, known)))
            self.assertTrue(right_ring(case, ring.table))
            self.assertTrue(shows_ring(case, ring))
            self.assertEqual(judged(case), ring)
            for most in (0, 1, 4, 12):
                book = unrolled(case, ring, most)
                self.assertEqual(book.layers, (ring.table,) * most + (tuple((situation, ()) for situation, row in ring.table),))
                self.assertTrue(right_book(case, book.layers, most))
        self.assertGreater(never, 30)

    def test_papers(self):
        self.assertEqual([Ring(table=[[[0], []]]).table, Ring([]).word, bool(Ring([])), Ring([]) == Ring(())], [(((0,), ()),), "ring", False, True])
        self.assertEqual([Book(layers=[[]]).layers, Book([]).word, bool(Book([]))], [((),), "book", False])
        self.assertTrue(isinstance(Ring(0), Denial) and isinstance(Book(0), Denial))
        self.assertFalse(Ring([]) == Book([]) or Ring([]) == Denial("ring", []) or Denial("ring", []) == Ring([]))

    def test_errors(self):
        self.odd(lambda value: unrolled(value, None, None), lambda value: BadCase("case"))
        for value in ODD + [BOOK, Ring(RING.table[:-1]), Denial("ring", RING.table), RING.table, Ring([])]:
            self.raises(BadPaper("ring"), unrolled, NEVER, value, None)
        for value in ODD + [13]:
            if not (is_int(value) and 0 <= value <= 12):
                self.raises(BadNumber("most"), unrolled, NEVER, RING, value)
        self.assertEqual(unrolled(case=NEVER, ring=RING, most=0).layers, ((((0, 0), ()), ((0, 1), ()), ((1, 0), ())),))

    def test_many_entries_by_hand(self):
        """A right ring of more than 300 entries is right, but its books are not made."""
        case = Case.alike(Stock(2, 1, 2, [Question(0, [0, 1])]), Rule(1, 2, [[s] * 4 for s in range(18)]), Wish.each(2))
        table = [((s, t), (0,)) for s in range(18) for t in range(18)]
        self.assertTrue(shows_ring(case, Ring(table)))
        self.raises(MANY, unrolled, case, Ring(table), 1)
        self.raises(BadNumber("most"), unrolled, case, Ring(table), 13)
        self.assertEqual(hearing_by(case, Ring(table), [0, 0]), (0, 0))
        self.assertEqual(len(unrolled(case, Ring(table[:300]), 1).layers[0]), 300)


class Shows(Checks, unittest.TestCase):
    def test_bends_of_books(self):
        draws = Draws(256)
        for case in cases():
            for book in (find_book(case, 2), least_book(case, 1)):
                if book is not None:
                    self.assertTrue(shows_book(case, Book(listed(book.layers)), len(book.layers) - 1))
                    self.assertFalse(shows_book(case, book, len(book.layers)))
                    for bent in some_bends(draws, book.layers, 25):
                        self.assertIs(shows_book(case, Book(bent)), right_book(case, bent), bent)
        for bent in bends(BOOK.layers):
            self.assertIs(shows_book(PAIR, Book(bent)), right_book(PAIR, bent), bent)
            self.assertIs(shows_book(PAIR, Book(bent), 2), right_book(PAIR, bent, 2), bent)

    def test_bends_of_rings(self):
        draws = Draws(257)
        for case in cases():
            ring = find_ring(case)
            if ring is not None:
                self.assertTrue(shows_ring(case, Ring(listed(ring.table))))
                for bent in some_bends(draws, ring.table, 40):
                    self.assertIs(shows_ring(case, Ring(bent)), right_ring(case, bent), bent)
        for bent in bends(RING.table):
            self.assertIs(shows_ring(NEVER, Ring(bent)), right_ring(NEVER, bent), bent)

    def test_any_situations(self):
        """Also of situations that do not come about, and that only stand for others."""
        case = Case.alike(Stock.splits(2), at_most(2), Wish.each(2))
        book = Book([[((1, 1), (0, 0))], [((0, 2), (0, 1)), ((1, 1), (0, 0)), ((1, 2), (0, 1))], [((1, 1), ()), ((2, 2), ())]])
        self.assertIs(right_book(case, book.layers, 2), shows_book(case, book, 2))
        self.assertTrue(shows_book(case, book, 2))
        self.assertEqual(hearing_by(case, book, [1, 1]), (0, 1))
        self.assertFalse(shows_book(case, Book([[((-1, 1), ())]]), 0))
        self.assertTrue(shows_book(case, Book([[((2, 2), ())]]), 0))
        self.assertFalse(shows_book(PAIR, Book([[((2, 2), ())]]), 0))

    def test_long_books(self):
        book = Book([RING.table] * 60 + [[(situation, ()) for situation, row in RING.table]])
        self.assertTrue(shows_book(NEVER, book, 60) and shows_book(NEVER, book) and not shows_book(NEVER, book, 59))
        longer = Book((RING.table,) + book.layers)
        self.assertTrue(shows_book(NEVER, longer))
        self.assertEqual(len(hearing_by(NEVER, longer, [0] * 61)), 61)
        self.raises(TooMany("numbers", 61), hearing_by, NEVER, longer, [0] * 62)
        self.assertTrue(right_book(NEVER, carried_book(NEVER, longer, NEVER).layers, 61))

    def test_odd(self):
        for value in ODD:
            self.assertFalse(shows_book(PAIR, value) or shows_book(PAIR, Book(value)) or shows_book(PAIR, Book([value])) or shows_book(PAIR, Book([[value]])))
            self.assertFalse(shows_book(PAIR, Book([[[value, []]]])) and value not in ([0, 0], (0, 1)))
            self.assertFalse(shows_ring(PAIR, value) or shows_ring(PAIR, Ring(value)) or shows_ring(NEVER, Ring([value])) or shows_ring(NEVER, Ring([[(0, 0), value]])))
        for value in (Denial("book", BOOK.layers), Paper("book", BOOK.layers), Ring(BOOK.layers), Plan(BOOK.layers), BOOK.layers):
            self.assertFalse(shows_book(PAIR, value))
        for value in (Denial("ring", RING.table), Paper("ring", RING.table), Book(RING.table), RING.table, Book([RING.table])):
            self.assertFalse(shows_ring(NEVER, value))
        self.assertTrue(shows_book(case=PAIR, value=BOOK, most=2) and shows_ring(case=NEVER, value=RING))

    def test_errors(self):
        self.odd(lambda value: shows_book(value, None, -1), lambda value: BadCase("case"))
        self.odd(lambda value: shows_ring(value, None), lambda value: BadCase("case"))
        for value in ODD + [61, 62]:
            if value is not None and not (is_int(value) and 0 <= value <= 60):
                self.raises(BadNumber("most"), shows_book, PAIR, BOOK, value)
                self.raises(BadNumber("most"), shows_book, PAIR, None, value)
        self.assertFalse(shows_book(PAIR, BOOK, 60))

    def test_never_too_many(self):
        more = chain([0, 0, 63, 0])
        self.assertTrue(shows_book(more, Book([[((63, 63), ())]]), 0))
        self.assertFalse(shows_ring(more, RING))


class CarriedBook(Checks, unittest.TestCase):
    def test_freer(self):
        draws = Draws(258)
        many = 0
        for case in cases():
            less = less_free(draws, case)
            for most in (0, 1, 3):
                book = find_book(less, most)
                if book is None:
                    continue
                many += 1
                found = carried_book(less, book, case)
                self.assertIsInstance(found, Book)
                self.assertTrue(right_book(case, found.layers, most))
                self.assertEqual(carried_book(less, book, case), found)
                self.assertTrue(right_book(less, carried_book(less, least_book(less, most), less).layers, most))
        self.assertGreater(many, 60)

    def test_errors(self):
        self.odd(lambda value: carried_book(value, None, None), lambda value: BadCase("case"))
        for value in ODD + [RING, Book(BOOK.layers[:2]), Denial("book", BOOK.layers), BOOK.layers]:
            self.raises(BadPaper("book"), carried_book, PAIR, value, None)
        self.odd(lambda value: carried_book(PAIR, BOOK, value), lambda value: BadCase("other"))
        self.raises(Unlike("stock"), carried_book, PAIR, BOOK, Case.alike(Stock.singles(2), truthful(), Wish.left(1)))
        self.raises(Unlike("wish"), carried_book, PAIR, BOOK, Case.alike(Stock.splits(2), truthful(), Wish.left(1)))
        self.raises(NotFreer(0), carried_book, PAIR, BOOK, Case.alike(Stock.splits(2), truthful(), Wish.each(2)))
        self.raises(NotFreer(1), carried_book, PAIR, BOOK, Case(Stock.splits(2), at_most(3), [1, 3], Wish.each(2)))
        found = carried_book(case=PAIR, book=BOOK, other=Case.alike(Stock.splits(2), at_most(2), Wish.each(2)))
        self.assertEqual(len(found.layers), 3)


class PutTogether(Checks, unittest.TestCase):
    def test_two_cases(self):
        many = 0
        some = [case for case in made_cases(259, 150, 3, 2, 2, 2, 2) + ready_cases() if case.wish.classes is not None and case.things < 4]
        some = [case for case in some if depth_of(case) != 0]
        for one, other in list(zip(some, some[3:] + some[:3])) + list(zip(some, some[1:])):
            for m, n in ((0, 0), (1, 0), (0, 2), (2, 1)):
                book, more = find_book(one, m), least_book(other, n)
                if book is None or more is None:
                    continue
                joined = two_asked(one, other)
                found = put_together(one, book, other, more)
                self.assertIsInstance(found, Book)
                self.assertEqual(len(found.layers), m + n + 2)
                self.assertTrue(shows_book(joined, found, m + n + 1))
                if joined.things <= 4:
                    many += 1
                    self.assertTrue(right_book(joined, found.layers, m + n + 1))
                    self.assertEqual(put_together(one, book, other, more), found)
        self.assertGreater(many, 40)

    def test_errors(self):
        self.odd(lambda value: put_together(value, None, None, None), lambda value: BadCase("one"))
        self.odd(lambda value: put_together(PAIR, value, None, None), lambda value: BadPaper("book"))
        self.odd(lambda value: put_together(PAIR, BOOK, value, None), lambda value: BadCase("other"))
        self.odd(lambda value: put_together(PAIR, BOOK, PAIR, value), lambda value: BadPaper("more"))
        number = Case.alike(Stock.splits(2), at_most(1), Wish.left(1))
        for value in (Denial("book", BOOK.layers), RING, BOOK.layers, Book(BOOK.layers[:2])):
            self.raises(BadPaper("book"), put_together, PAIR, value, None, None)
            self.raises(BadPaper("more"), put_together, PAIR, BOOK, PAIR, value)
        self.raises(BadCase("wish"), put_together, PAIR, BOOK, number, find_book(number, 1))
        self.raises(BadCase("wish"), put_together, number, find_book(number, 1), PAIR, BOOK)
        three = Case.alike(Stock(2, 1, 3, []), truthful(1, 3), Wish.each(2))
        self.raises(Unlike("heaps"), put_together, PAIR, BOOK, three, find_book(three, 0))
        wide = Case.alike(Stock.singles(9), truthful(), Wish.each(9))
        self.raises(TooMany("things", 16), put_together, PAIR, BOOK, wide, find_book(wide, 0))
        found = put_together(one=PAIR, book=BOOK, other=PAIR, more=find_book(PAIR, 0))
        self.assertEqual(len(found.layers), 4)


if __name__ == "__main__":
    unittest.main()
