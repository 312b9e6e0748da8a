"""truthwell.weights, truthwell.gaps."""

import time
import unittest

from truthwell.books import Book
from truthwell.books import find_book
from truthwell.cases import Case
from truthwell.check_books import shows_book
from truthwell.check_books import shows_gap
from truthwell.depths import depth_of
from truthwell.errors import BadCase
from truthwell.errors import BadNumber
from truthwell.errors import BadRule
from truthwell.errors import BadSituation
from truthwell.errors import NoQuestion
from truthwell.errors import NoStand
from truthwell.errors import NotEven
from truthwell.errors import TooMany
from truthwell.gaps import Gap
from truthwell.gaps import gap
from truthwell.papers import Denial
from truthwell.papers import Paper
from truthwell.questions import Question
from truthwell.ready import after_truths
from truthwell.ready import always_false
from truthwell.ready import anything
from truthwell.ready import at_most
from truthwell.ready import at_turns
from truthwell.ready import false_yes
from truthwell.ready import named_tells
from truthwell.ready import never_running
from truthwell.ready import one_in
from truthwell.ready import truthful
from truthwell.rings import Ring
from truthwell.rings import find_ring
from truthwell.stocks import Stock
from truthwell.weights import heaviest
from truthwell.weights import heavy_book
from truthwell.weights import room
from truthwell.weights import weighed
from truthwell.weights import weight
from truthwell.weights import weight_of
from truthwell.weights import well_parted
from truthwell.wishes import Wish

from bends import listed
from bends import some_bends
from helpers import Checks
from helpers import Draws
from helpers import ODD
from helpers import is_int
from helpers import made_cases
from plain import above
from plain import all_depths
from plain import all_hearings
from plain import all_met
from plain import all_situations
from plain import answers
from plain import behind
from plain import lawful_for
from plain import numbers_of
from plain import right_book
from plain import right_ring

PAIR = Case.alike(Stock.splits(2), at_most(1), Wish.each(2))
NEVER = Case.alike(Stock.splits(2), never_running(), Wish.each(2))
THREE = Case.alike(Stock.singles(3), at_most(1), Wish.each(3))
UNEVEN = Case.alike(Stock.splits(2), false_yes(1), Wish.each(2))
FULL = TooMany("situations", 4096)


def even_rules():
    return [truthful(), always_false(), anything(), at_most(1), at_most(3), never_running(), one_in(3), after_truths(2), at_turns(2),
            truthful(2, 3), at_most(1, 1, 3), at_most(2, 2, 2), one_in(2, 1, 3), never_running(2, 3)]


def even_cases(seed, many):
    """Small cases with even-handed rules, of both sorts of wishes."""
    draws = Draws(seed)
    found = []
    for _ in range(many):
        rule = draws.pick(even_rules())
        things = 1 + draws.below(3)
        rows = []
        for _ in range(1 + draws.below(3)):
            row = (draws.below(rule.answerers), tuple(draws.below(rule.heaps) for _ in range(things)))
            if row not in rows:
                rows.append(row)
        stock = Stock(things, rule.answerers, rule.heaps, [Question(who, row) for who, row in rows])
        wish = Wish.left(1 + draws.below(2)) if draws.below(3) == 0 else Wish.of([draws.below(3) for _ in range(things)])
        found.append(Case(stock, rule, [draws.below(len(rule)) for _ in range(things)], wish))
    return found


def thing_weight(case, situation, thing, many):
    """All hearings, one by one, of one question that is asked again and again."""
    if situation[thing] == -1:
        return 0
    numbers = [0] * many
    return sum(lawful_for(case, numbers, hearing, thing, situation[thing]) is not None for hearing in all_hearings(case, numbers))


def weight_by_words(case, situation, many):
    found = [thing_weight(case, situation, thing, many) for thing in range(case.things)]
    if case.wish.classes is None:
        return sum(found)
    return sum(max(found[x] for x in range(case.things) if case.wish.classes[x] == told) for told in set(case.wish.classes))


def room_by_words(case, many):
    return case.heaps ** many * (1 if case.wish.classes is not None else case.wish.most)


def gap_cases():
    found = even_cases(269, 110) + [THREE, PAIR, NEVER]
    for rule in (at_most(1), at_most(2), one_in(3), one_in(4)):
        found += [Case.alike(stock, rule, Wish.each(stock.things)) for stock in (Stock.singles(3), Stock.splits(3))]
    return found


class Weights(Checks, unittest.TestCase):
    def test_against_hearings(self):
        for case in even_cases(261, 60):
            most = 4 if case.heaps == 2 else 3
            for stand in range(len(case.rule)):
                for many in range(most + 1):
                    wanted = thing_weight(case, (stand,) * case.things, 0, many)
                    self.assertEqual(weight(case.rule, stand, many), wanted)
            draws = Draws(262)
            for _ in range(4):
                situation = draws.pick(all_situations(case))
                for many in range(most + 1):
                    self.assertEqual(weight_of(case, list(situation), many), weight_by_words(case, situation, many))
                    self.assertEqual(room(case, many), room_by_words(case, many))

    def test_whatever_is_asked(self):
        """The number of lawful hearings is the same for each list."""
        for case in even_cases(263, 25):
            draws = Draws(264)
            numbers = [draws.below(len(case.stock)) for _ in range(3)]
            for thing in range(case.things):
                found = sum(lawful_for(case, numbers, hearing, thing) is not None for hearing in all_hearings(case, numbers))
                self.assertEqual(found, weight(case.rule, case.firsts[thing], 3))

    def test_great(self):
        self.assertEqual([weight(anything(), 0, 60), weight(truthful(), 0, 60), weight(at_most(63), 0, 60), weight(at_most(1), 0, 60)],
                         [2 ** 60, 1, 2 ** 60, 61])
        self.assertEqual([weight(anything(2, 3), 0, 60), weight(always_false(1, 3), 0, 60)], [3 ** 60, 2 ** 60])
        self.assertEqual([room(PAIR, 60), room(UNEVEN, 60), room(Case.alike(Stock.singles(4), truthful(), Wish.left(3)), 60)],
                         [2 ** 60, 2 ** 60, 3 * 2 ** 60])
        sixteen = Case.alike(Stock.singles(16), at_most(40), Wish.each(16))
        begun = time.time()
        self.assertEqual(weight_of(sixteen, [0] * 16, 60), 16 * weight(at_most(40), 0, 60))
        self.assertEqual(well_parted(sixteen, [0] * 16, 60), ())
        self.assertLess(time.time() - begun, 2)

    def test_heaviest_and_well_parted(self):
        for case in even_cases(265, 50):
            draws = Draws(266)
            for _ in range(4):
                situation = draws.pick(all_situations(case))
                for many in (1, 2, 4 if case.heaps == 2 else 3):
                    fine = []
                    for number, question in enumerate(case.stock):
                        found = [weight_by_words(case, behind(case, situation, question, told), many - 1) for told in range(case.heaps)]
                        self.assertEqual(heaviest(case, list(situation), number, many), (found.index(max(found)), max(found)))
                        if max(found) <= room_by_words(case, many - 1):
                            fine.append(number)
                    self.assertEqual(well_parted(case, situation, many), tuple(fine))

    def test_facts(self):
        for case in even_cases(267, 40):
            for situation in all_met(case)[:6]:
                for many in (1, 2, 5):
                    for number in numbers_of(case):
                        found = [weight_of(case, new, many - 1) for told, new in answers(case, situation, number)]
                        whole = weight_of(case, situation, many)
                        self.assertGreaterEqual(sum(found), whole)
                        opened = [x for x, s in enumerate(situation) if s != -1]
                        if case.wish.classes is None or len({case.wish.classes[x] for x in opened}) == len(opened):
                            self.assertEqual(sum(found), whole)
            least = weighed(case)
            depth = depth_of(case)
            for many in range(13):
                heavy = weight_of(case, case.firsts, many) > room(case, many)
                self.assertIs(heavy, least is None or many < least)
                if heavy:
                    self.assertTrue(above(depth, many))

    def test_out(self):
        self.assertEqual([weight_of(PAIR, (-1, -1), 5), heaviest(PAIR, (-1, -1), 1, 5), well_parted(PAIR, (-1, -1), 5)], [0, (0, 0), (0, 1)])
        self.assertEqual([weight_of(PAIR, (-1, 1), 5), heaviest(PAIR, (-1, 1), 1, 5)], [1, (1, 1)])

    def test_weighed(self):
        self.assertEqual([weighed(PAIR), weighed(NEVER), weighed(THREE)], [3, 4, 4])
        self.assertEqual([weighed(Case.alike(Stock.splits(2), anything(), Wish.each(2))), weighed(Case.alike(Stock.splits(2), anything(), Wish.left(2)))], [None, 0])
        self.assertEqual(weighed(Case.alike(Stock(2, 1, 2, []), truthful(), Wish.each(2))), 1)
        for lies, wanted in ((5, 11), (6, None)):
            self.assertEqual(weighed(Case.alike(Stock.splits(2), at_most(lies), Wish.each(2))), wanted)
        # For 12 answers there is room just here; for the others just for 13.
        for things, wish, lies, wanted in ((5, Wish.each(5), 4, 12), (6, Wish.each(6), 4, None), (3, Wish.left(2), 6, 12), (4, Wish.left(2), 6, None)):
            self.assertEqual(weighed(Case.alike(Stock.singles(things), at_most(lies), wish)), wanted)

    def test_heavy_book(self):
        many = 0
        for case in even_cases(268, 60):
            for most in (0, 1, 2, 4, 6):
                book = heavy_book(case, most)
                self.assertEqual(book is None, weight_of(case, case.firsts, most) <= room(case, most))
                if book is not None:
                    many += 1
                    self.assertIsInstance(book, Book)
                    self.assertTrue(right_book(case, book.layers, most))
                    self.assertTrue(shows_book(case, book, most))
                    for left, layer in enumerate(book.layers[::-1]):
                        self.assertTrue(all(weight_of(case, situation, left) > room(case, left) for situation, row in layer))
                    self.assertEqual(heavy_book(case, most), book)
        self.assertGreater(many, 60)
        self.assertEqual(heavy_book(case=PAIR, most=3), None)
        self.assertEqual(len(heavy_book(Case.alike(Stock.splits(2), anything(), Wish.each(2)), 12).layers), 13)

    def test_heavy_book_too_long(self):
        wide = Case.alike(Stock.singles(7), at_most(9), Wish.each(7))
        self.raises(TooMany("layer", 300), heavy_book, wide, 12)
        self.assertTrue(shows_book(wide, heavy_book(wide, 3), 3))
        big = Case.alike(Stock(2, 1, 2, [Question(0, [0, 1])]), at_most(63), Wish.each(2))
        self.assertTrue(shows_book(big, heavy_book(big, 12), 12))

    def test_errors(self):
        self.odd(lambda value: weight(value, None, None), lambda value: BadRule("rule"))
        self.odd_stand(lambda value: weight(at_most(1), value, None), 2, NoStand)
        for call in (lambda value: weight_of(value, None, None), lambda value: room(value, None), lambda value: heaviest(value, None, None, None),
                     lambda value: well_parted(value, None, None), weighed, lambda value: heavy_book(value, None), gap):
            self.odd(call, lambda value: BadCase("case"))
        for value in ODD + [[0], [0, 2], [-2, 0]]:
            if value not in ([0, 0], (0, 1)):
                for call in (lambda: weight_of(UNEVEN, value, None), lambda: heaviest(UNEVEN, value, None, None), lambda: well_parted(UNEVEN, value, None)):
                    self.raises(BadSituation("situation"), call)
        self.odd_stand(lambda value: heaviest(UNEVEN, [0, 0], value, None), 2, NoQuestion)
        for value in ODD + [61, -1]:
            if not (is_int(value) and 0 <= value <= 60):
                for call in (lambda: weight(false_yes(1), 0, value), lambda: weight_of(UNEVEN, [0, 0], value), lambda: room(PAIR, value)):
                    self.raises(BadNumber("answers"), call)
            if not (is_int(value) and 1 <= value <= 60):
                for call in (lambda: heaviest(UNEVEN, [0, 0], 0, value), lambda: well_parted(UNEVEN, [0, 0], value)):
                    self.raises(BadNumber("answers"), call)
        for value in ODD + [13]:
            if not (is_int(value) and 0 <= value <= 12):
                self.raises(BadNumber("most"), heavy_book, UNEVEN, value)
        for call in (lambda: weight(false_yes(1), 0, 0), lambda: weight_of(UNEVEN, [0, 0], 60), lambda: heaviest(UNEVEN, [0, 0], 0, 1),
                     lambda: well_parted(UNEVEN, [0, 0], 60), lambda: weighed(UNEVEN), lambda: heavy_book(UNEVEN, 12), lambda: gap(UNEVEN),
                     lambda: weight(named_tells(), 0, 3), lambda: shows_gap(UNEVEN, None)):
            self.raises(NotEven(), call)
        self.assertEqual([weight(rule=at_most(1), stand=1, answers=3), weight_of(case=PAIR, situation=[0, 1], answers=2), room(case=UNEVEN, answers=2),
                          heaviest(case=PAIR, situation=[0, 0], number=1, answers=1), well_parted(case=PAIR, situation=[0, 0], answers=3), weighed(case=PAIR)],
                         [1, 4, 4, (0, 2), (1,), 3])


class Gaps(Checks, unittest.TestCase):
    def test_against_words(self):
        kinds = set()
        for case in gap_cases():
            least, depth = weighed(case), all_depths(case)[case.firsts]
            found = gap(case)
            if least is None or least == depth:
                self.assertIsNone(found)
                continue
            self.assertIsInstance(found, Gap)
            self.assertEqual(found.weighed, least)
            kinds.add(found.kind)
            if depth is None:
                self.assertEqual([found.kind, found.shown], ["never", find_ring(case)])
            else:
                self.assertEqual(found.shown, find_book(case, least))
                self.assertEqual(found.kind, "later" if well_parted(case, case.firsts, least) else "here")
            self.assertTrue(shows_gap(case, found))
        self.assertEqual(kinds, {"here", "later", "never"})

    def right_gap(self, case, kind, least, shown):
        if type(least) is not int or least != weighed(case) or least < 1:
            return False
        if kind == "never":
            return isinstance(shown, Ring) and right_ring(case, shown.table)
        wanted = "later" if well_parted(case, case.firsts, least) else "here"
        return type(kind) is str and kind == wanted and isinstance(shown, Book) and right_book(case, shown.layers, least)

    def test_bends(self):
        draws = Draws(270)
        for case in gap_cases():
            found = gap(case)
            if found is None:
                continue
            inner = found.shown.parts[0]
            kind = type(found.shown)
            self.assertTrue(shows_gap(case, Gap(found.kind, found.weighed, kind(listed(inner)))))
            for bent in some_bends(draws, inner, 10):
                self.assertIs(shows_gap(case, Gap(found.kind, found.weighed, kind(bent))), self.right_gap(case, found.kind, found.weighed, kind(bent)))
            for word in ("here", "later", "never", "", None, 0, "Here"):
                self.assertIs(shows_gap(case, Gap(word, found.weighed, found.shown)), self.right_gap(case, word, found.weighed, found.shown))
            for least in (found.weighed + 1, found.weighed - 1, None, True, str(found.weighed), float(found.weighed)):
                self.assertIs(shows_gap(case, Gap(found.kind, least, found.shown)), False)

    def test_book_of_what_is_never(self):
        """Also where the depth is never, a book for weighed shows a gap."""
        book = find_book(NEVER, 4)
        kinds = [kind for kind in ("here", "later") if shows_gap(NEVER, Gap(kind, 4, book))]
        self.assertEqual(kinds, ["later" if well_parted(NEVER, (0, 0), 4) else "here"])
        self.assertFalse(shows_gap(NEVER, Gap("never", 4, book)) or shows_gap(NEVER, Gap(kinds[0], 4, find_ring(NEVER))))

    def test_odd(self):
        found = gap(THREE)
        for value in ODD:
            for paper in (value, Gap(value, 4, found.shown), Gap("here", value, found.shown), Gap("here", 4, value), Gap("never", 4, value)):
                self.assertIs(shows_gap(THREE, paper), False)
        for value in (Denial("gap", *found.parts), Paper("gap", *found.parts), found.parts, found.shown, Gap("here", 4, found)):
            self.assertIs(shows_gap(THREE, value), False)
        self.odd(lambda value: shows_gap(value, found), lambda value: BadCase("case"))
        self.assertIs(shows_gap(case=THREE, value=found), True)
        settled = Case.alike(Stock.splits(2), anything(), Wish.left(2))
        for kind in ("here", "later", "never"):
            self.assertIs(shows_gap(settled, Gap(kind, 0, Book([[]]))), False)
            self.assertIs(shows_gap(settled, Gap(kind, 0, Ring([]))), False)
            self.assertIs(shows_gap(Case.alike(Stock.splits(2), anything(), Wish.each(2)), Gap(kind, None, Ring([]))), False)

    def test_nothing_weighed(self):
        """Where no number is weighed nothing is a gap, whatever is shown."""
        free = Case.alike(Stock.splits(2), anything(), Wish.each(2))
        for kind in ("never", "here", "later"):
            for least in (None, 0, 1, 12, 13):
                self.assertIs(shows_gap(free, Gap(kind, least, find_ring(free))), False)
                self.assertIs(shows_gap(free, Gap(kind, least, find_book(free, 12))), False)

    def test_too_many(self):
        big = Case.alike(Stock(2, 1, 2, [Question(0, [0, 1])]), at_most(63), Wish.each(2))
        self.assertEqual([weighed(big), gap(big)], [None, None])
        many = Case(Stock.splits(2), at_most(63), [63, 62], Wish.each(2))
        self.assertEqual(gap(many), None)
        rule = one_in(64)
        wide = Case.alike(Stock.splits(3), rule, Wish.each(3))
        self.assertIsNotNone(weighed(wide))
        self.raises(FULL, gap, wide)
        self.assertFalse(shows_gap(wide, Gap("here", weighed(wide), Book([]))))

    def test_papers(self):
        paper = Gap(kind="here", weighed=4, shown=[1])
        self.assertEqual([paper.word, paper.kind, paper.weighed, paper.shown, paper.parts, bool(paper)], ["gap", "here", 4, (1,), ("here", 4, (1,)), False])
        self.assertEqual(gap(THREE), gap(case=THREE))


if __name__ == "__main__":
    unittest.main()
