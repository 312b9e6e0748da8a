"""truthwell.cases."""

import unittest
from itertools import product

from truthwell.cases import Case
from truthwell.errors import BadCase
from truthwell.errors import BadRule
from truthwell.errors import BadStock
from truthwell.errors import BadText
from truthwell.errors import BadWish
from truthwell.errors import NoStand
from truthwell.errors import Unlike
from truthwell.questions import Question
from truthwell.ready import at_most
from truthwell.ready import truthful
from truthwell.stocks import Stock
from truthwell.wishes import Wish

from helpers import BIG
from helpers import Checks
from helpers import Draws
from helpers import ODD
from helpers import made_case

STOCK = Stock(3, 1, 2, [Question(0, [0, 1, 1]), Question(0, [0, 0, 1])])
RULE = at_most(1)
WISH = Wish.of([0, 1, 1])


class Made(Checks, unittest.TestCase):
    def test_attributes(self):
        case = Case(STOCK, RULE, [0, 0, 1], WISH)
        self.assertEqual([case.stock, case.rule, case.firsts, case.wish, case.things, case.answerers, case.heaps],
                         [STOCK, RULE, (0, 0, 1), WISH, 3, 1, 2])
        self.assertEqual(Case(stock=STOCK, rule=RULE, firsts=(0, 0, 1), wish=WISH), case)
        self.assertEqual(Case.alike(STOCK, RULE, WISH).firsts, (0, 0, 0))
        self.assertEqual(Case.alike(stock=STOCK, rule=RULE, wish=WISH), Case(STOCK, RULE, [0] * 3, WISH))
        big = Case.alike(Stock(16, 4, 3, []), truthful(4, 3), Wish.left(16))
        self.assertEqual([big.things, big.answerers, big.heaps], [16, 4, 3])

    def test_copied(self):
        firsts = [0, 0, 1]
        case = Case(STOCK, RULE, firsts, WISH)
        firsts[0] = 1
        self.assertEqual(case.firsts, (0, 0, 1))

    def test_errors(self):
        other = truthful(2, 3)
        self.odd(lambda value: Case(value, None, None, None), lambda value: BadStock("stock"))
        self.odd(lambda value: Case(STOCK, value, None, None), lambda value: BadRule("rule"))
        self.odd(lambda value: Case(STOCK, other, value, None), lambda value: BadCase("firsts"), lambda value: value == [1, 0, BIG])
        for firsts in ([0, 0], [0] * 4, [0, 0, True], [0, None, 0], "000", {0: 0, 1: 1, 2: 2}, [[0], [0], [0]], [9, 9]):
            self.raises(BadCase("firsts"), Case, STOCK, other, firsts, None)
        self.odd(lambda value: Case(STOCK, other, [9, 9, 9], value), lambda value: BadWish("wish"))
        wide = Wish.of([0, 1])
        for value in (2, -1, BIG):
            self.raises(NoStand(value), Case, STOCK, RULE, [1, value, 99], wide)
        self.raises(NoStand(1), Case, STOCK, other, [0, 1, 2], wide)
        self.raises(Unlike("answerers"), Case, STOCK, other, [0, 0, 0], wide)
        self.raises(Unlike("heaps"), Case, STOCK, truthful(1, 3), [0, 0, 0], wide)
        self.raises(Unlike("things"), Case, STOCK, RULE, [0, 0, 0], wide)
        self.raises(Unlike("things"), Case, STOCK, RULE, [0, 0, 0], Wish.each(4))

    def test_alike_errors(self):
        self.odd(lambda value: Case.alike(value, None, None), lambda value: BadStock("stock"))
        self.odd(lambda value: Case.alike(STOCK, value, None), lambda value: BadRule("rule"))
        self.odd(lambda value: Case.alike(STOCK, truthful(2, 3), value), lambda value: BadWish("wish"))
        self.raises(Unlike("answerers"), Case.alike, STOCK, truthful(2, 3), Wish.each(2))
        self.raises(Unlike("heaps"), Case.alike, STOCK, truthful(1, 3), Wish.each(2))
        self.raises(Unlike("things"), Case.alike, STOCK, RULE, Wish.each(2))

    def test_equal(self):
        case = Case(STOCK, RULE, [0, 0, 1], WISH)
        self.assertTrue(case == Case(STOCK, at_most(1), (0, 0, 1), Wish.of([5, 4, 4])))
        self.assertFalse(case != Case(STOCK, at_most(1), (0, 0, 1), Wish.of([5, 4, 4])))
        for other in (Case(STOCK, RULE, [0, 0, 0], WISH), Case(STOCK, at_most(2), [0, 0, 1], WISH), Case(STOCK, RULE, [0, 0, 1], Wish.left(1)),
                      Case(Stock(3, 1, 2, []), RULE, [0, 0, 1], WISH), None, str(case), STOCK):
            self.assertTrue(case != other)
            self.assertFalse(case == other)


class Texts(Checks, unittest.TestCase):
    def test_written_and_read(self):
        draws = Draws(61)
        for _ in range(60):
            case = made_case(draws, 1 + draws.below(6), 1 + draws.below(4), 2 + draws.below(2), 4, draws.below(5), draws.below(2) == 0)
            self.assertEqual(Case.read(str(case)), case)
            self.assertEqual(str(Case.read(str(case))), str(case))
            self.assertEqual(str(case).split(" ; "), [str(case.stock), str(case.rule), " ".join(map(str, case.firsts)), str(case.wish)])

    def test_any_value(self):
        for value in ODD:
            self.raises(BadText(0, 0), Case.read, value)

    def test_words(self):
        # 0 things, 3 the first ;, 4 the rule, 11 the second ;, 12 and 13 the first stands, 14 the third ;, 15 the wish.
        text = "2 1 2 ; 1 2 | 0 - - 0 ; 0 0 ; most 1"
        self.assertEqual(str(Case.read(text)), text)
        for bent, word in (("2 1 2", 3), ("2 1 2 ;", 4), ("2 1 ; 1 2 | 0 - - 0 ; 0 0 ; most 1", 2), ("2 1 2 | ; 1 2 | 0 - - 0 ; 0 0 ; most 1", 4),
                           ("2 1 2 ; ; 0 0 ; most 1", 4), ("2 1 2 ; 2 2 | 0 - - 0 0 - - 0 ; 0 0 ; most 1", 4), ("2 1 2 ; 1 3", 5),
                           ("2 1 2 ; 1 2 ; 0 0 ; most 1", 6), ("2 1 2 ; 1 2 | 0 - - ; 0 0 ; most 1", 10), ("2 1 2 ; 1 2 | 1 - - 0 ; 0 0", 11),
                           ("2 1 2 ; 1 2 | 0 - - - ; 0 0 ; most 1", 10), ("2 1 2 ; 1 2 | 0 - - 0 0 0 ; most 1", 11),
                           ("2 1 2 ; 1 2 | 0 - - 0 ; 1 0 ; most 1", 12), ("2 1 2 ; 1 2 | 0 - - 0 ; 0 -1 ; most 1", 13),
                           ("2 1 2 ; 1 2 | 0 - - 0 ; 0 ; most 1", 13), ("2 1 2 ; 1 2 | 0 - - 0 ; 0 0 0 ; most 1", 14),
                           ("2 1 2 ; 1 2 | 0 - - 0 ; 0 0", 14), ("2 1 2 ; 1 2 | 0 - - 0 ; 0 0 ;", 15), ("2 1 2 ; 1 2 | 0 - - 0 ; 0 0 ; most", 16),
                           (text + " 1", 17), (text + " ;", 17), (text + " ", 17), ("", 0), (" " + text, 0), ("2 1 2  ; 1 2", 3),
                           ("2 1 2 ; 1 2 | 0 - - 0 ; 0 0 ; classes 0", 17), ("2 1 2 ; 1 2 | 0 - - 0 ; 0 0 ; classes 0 0 0", 18),
                           ("2 1 2 ; 1 2 | 0 - - 0 ; 0 0 ; classes 0 2", 17), ("2 1 2 ; 1 2 | 0 - - 0 ; 0 0 ; classes 1 0", 16),
                           ("2 1 2 ; 1 2 | 0 - - 0 ; 0 0 ; classes", 16), ("2 1 2 ; 1 2 | 0 - - 0 ; 0 0 ; ; most 1", 15)):
            self.text_fault(bent, word, Case.read)

    def test_bent(self):
        """Each word left out, put in, exchanged: read by a plain grammar of its own."""
        texts = ["2 1 2 | 0 01 ; 1 2 | 0 1 1 0 | 1 - - 1 ; 0 1 ; classes 0 1", "1 2 2 ; 2 2 | 0 - - 0 - 0 0 - ; 0 ; most 16",
                 "3 1 3 | 0 012 | 0 000 ; 1 3 | 0 - - - 0 - - - 0 ; 0 0 0 ; classes 0 1 0"]
        inside = ("0", "1", "2", "3", "-", "|", ";", "", "01", "most", "classes", "17", "x", "64")
        seen = 0
        for text in texts:
            words = text.split(" ")
            for at in range(len(words) + 1):
                bents = [words[:at], words[:at] + words[at + 1:]]
                bents += [words[:at] + [word] + words[at + 1:] for word in inside] + [words[:at] + [word] + words[at:] for word in inside]
                for bent in bents:
                    wrong = first_wrong(bent or [""])
                    if wrong is None:
                        self.assertEqual(str(Case.read(" ".join(bent))), " ".join(bent))
                    else:
                        self.text_fault(" ".join(bent), wrong, Case.read)
                        seen += 1
        self.assertGreater(seen, 1000)


def first_wrong(words):
    """The first word that cannot stand in the text of a case; None if the text is right."""
    state = {"words": words, "at": 0}
    for step in (wrong_stock, wrong_rule, wrong_firsts, wrong_wish):
        if not step(state):
            return state["at"]
    return None if state["at"] == len(words) else state["at"]


def eat(state, fine):
    """Goes on by a word that is one of the fine ones."""
    words, at = state["words"], state["at"]
    if at < len(words) and words[at] in fine:
        state["at"] = at + 1
        return words[at]
    return None


def sees(state, word):
    return state["at"] < len(state["words"]) and state["words"][state["at"]] == word


def span(least, most):
    return [str(k) for k in range(least, most + 1)]


def wrong_stock(state):
    sizes = [eat(state, fine) if state["at"] == k else None for k, fine in enumerate((span(1, 16), span(1, 4), span(2, 3)))]
    if None in sizes:
        return False
    state["things"], state["answerers"], state["heaps"] = map(int, sizes)
    rows = ["".join(row) for row in product("012"[:state["heaps"]], repeat=state["things"])]
    asked = []
    while sees(state, "|"):
        eat(state, ["|"])
        who = eat(state, span(0, state["answerers"] - 1))
        row = who and eat(state, [row for row in rows if (who, row) not in asked])
        if not row:
            return False
        asked.append((who, row))
    return bool(eat(state, [";"]))


def wrong_rule(state):
    if not eat(state, [str(state["answerers"])]) or not eat(state, [str(state["heaps"])]):
        return False
    stands, named = 0, 0
    while stands == 0 or sees(state, "|"):
        if not eat(state, ["|"]):
            return False
        stands += 1
        for _ in range(state["answerers"] * state["heaps"]):
            barred = 0
            for _ in range(state["heaps"]):
                entry = eat(state, span(0, 63) + (["-"] if barred < state["heaps"] - 1 else []))
                if not entry:
                    return False
                barred += entry == "-"
                named = max(named, 0 if entry == "-" else int(entry))
    state["stands"] = stands
    return named < stands and bool(eat(state, [";"]))


def wrong_firsts(state):
    for _ in range(state["things"]):
        if not eat(state, span(0, state["stands"] - 1)):
            return False
    return bool(eat(state, [";"]))


def wrong_wish(state):
    word = eat(state, ["most", "classes"])
    if word == "most":
        return bool(eat(state, span(1, 16)))
    used = 0
    for _ in range(state["things"] if word else 0):
        told = eat(state, span(0, used))
        if not told:
            return False
        used = max(used, int(told) + 1)
    return bool(word)


if __name__ == "__main__":
    unittest.main()
