"""truthwell.paper_kinds, truthwell.paper_texts."""

import re
import time
import unittest

from truthwell.again import Again
from truthwell.again import Contrary
from truthwell.ahead import Shared
from truthwell.ahead import ahead
from truthwell.ahead import fewest_ahead
from truthwell.ahead import never_ahead
from truthwell.bars import least_bars
from truthwell.books import Book
from truthwell.books import find_book
from truthwell.cases import Case
from truthwell.entries import Endless
from truthwell.errors import BadPaper
from truthwell.fading import fading
from truthwell.fronts import coin_front
from truthwell.fronts import round_front
from truthwell.gaps import Gap
from truthwell.gaps import gap
from truthwell.order import order_free
from truthwell.paper_kinds import kind_words
from truthwell.paper_kinds import made
from truthwell.paper_kinds import paper_kind
from truthwell.paper_kinds import part_names
from truthwell.paper_texts import paper_text
from truthwell.paper_texts import read_paper
from truthwell.papers import Denial
from truthwell.papers import Paper
from truthwell.papers import fixed
from truthwell.plans import Plan
from truthwell.ready import after_truths
from truthwell.ready import at_most
from truthwell.ready import never_running
from truthwell.rings import Ring
from truthwell.rings import judged
from truthwell.stocks import Stock
from truthwell.untold import tellings
from truthwell.whom import crews
from truthwell.wishes import Wish

from helpers import BIG
from helpers import Checks
from helpers import Draws
from helpers import ODD
from test_bars import RUNS
from test_round_books import FOUR
from test_round_books import LOOSE
from test_whom import LIARS

KINDS = {
    "again": ["number"], "book": ["layers"], "breaks": ["places", "falls"], "coinfront": ["points", "plans", "books"], "contrary": ["signs", "begin"],
    "crews": ["enough", "short"], "enough": ["numbers", "table"], "fading": ["pairs"], "freer": ["past"], "gap": ["kind", "weighed", "shown"],
    "grows": ["thing", "past", "more"], "lawful": ["stands"], "layers": ["layers"], "leastbars": ["enough", "short"], "nobars": ["short"], "nocrew": ["short"],
    "nofreer": ["pairs"], "ordered": ["past", "other"], "orderfree": ["stands"], "plan": ["table"], "pricebook": ["table"], "priceplan": ["table"], "ring": ["table"],
    "roundbook": ["table"], "roundfront": ["points", "plans", "books"], "roundplan": ["table"], "roundring": ["table"], "shadowring": ["shadows"],
    "shared": ["group", "hearing"], "tellings": ["told", "knots"], "untold": ["group", "ring"]}
DENIALS = "book contrary freer gap grows lawful layers nobars nocrew ordered pricebook ring roundbook roundring shadowring shared untold".split()
TWO = Case.alike(Stock.splits(2), at_most(1), Wish.each(2))
NEVER = Case.alike(Stock.splits(2), never_running(), Wish.each(2))


def some_papers():
    """Papers of many kinds, as the program makes them."""
    found = [judged(TWO), judged(NEVER), find_book(TWO, 2), fading(TWO), fading(Case.alike(TWO.stock, after_truths(1), Wish.each(2))), gap(NEVER),
             order_free(at_most(1), 0), order_free(never_running(), 0), ahead(TWO, [1, 1, 1]), ahead(TWO, [1]), fewest_ahead(TWO, 2), never_ahead(NEVER),
             round_front(FOUR), round_front(LOOSE), coin_front(FOUR, [3, 1, 1]), crews(LIARS), crews(LIARS, 0), tellings(LOOSE), tellings(NEVER), least_bars(RUNS),
             least_bars(RUNS, 1)]
    return found


def made_value(draws, depth):
    """A value that has a text."""
    kind = draws.below(7 if depth > 0 else 4)
    if kind == 0:
        return None
    if kind == 1:
        return draws.pick([0, 1, -1, 7, 10 ** 60 - 1, 1 - 10 ** 60, 64])
    if kind == 2:
        return draws.pick(["T", "here", "never", "plan", "aZ", "x" * 60])
    if kind == 3:
        return ()
    if kind == 6:
        return made_paper(draws, depth - 1)
    return tuple(made_value(draws, depth - 1) for _ in range(draws.below(4)))


def made_paper(draws, depth):
    kind = draws.pick(sorted(KINDS))
    return made(kind, [made_value(draws, depth) for _ in KINDS[kind]])


def fault_of(text):
    """The index of the first word that cannot stand, of the missing one, or None for a text of a paper: by a stack of what is awaited."""
    words = text.split(" ")
    awaited = ["kind"]
    opened = 0
    for at, word in enumerate(words):
        if not awaited:
            return at
        wanted = awaited.pop()
        if wanted == "kind":
            if word not in KINDS:
                return at
            awaited += ["part"] * len(KINDS[word])
        elif wanted == "]":
            if word != "]":
                return at
            opened -= 1
        elif wanted == "items" and word == ")":
            opened -= 1
        else:
            if wanted == "items":
                awaited.append("items")
            if word in ("(", "["):
                opened += 1
                if opened > 50:
                    return at
                awaited += ["items"] if word == "(" else ["]", "kind"]
            elif not re.fullmatch(r"-|0|-?[1-9][0-9]{0,59}|[a-zA-Z]{1,60}", word):
                return at
    return len(words) if awaited else None


class Kinds(Checks, unittest.TestCase):
    def test_kinds(self):
        self.assertEqual(kind_words(), tuple(sorted(KINDS)))
        for kind, names in KINDS.items():
            self.assertEqual(part_names(kind=kind), tuple(names))
            values = [[7, [kind]], None, {"a": [1]}][:len(names)]
            for parts in (values, tuple(values)):
                paper = made(kind=kind, parts=parts)
                self.assertEqual([paper.word, paper.parts, paper_kind(value=paper)], [kind, fixed(tuple(values)), kind])
                self.assertEqual([getattr(paper, name) for name in names], list(paper.parts))
                self.assertEqual(type(paper).__name__.lower(), kind)
                self.assertIs(isinstance(paper, Denial), kind in DENIALS)
                self.assertEqual(paper, type(paper)(*values))

    def test_all_classes(self):
        """Each class of papers has a kind, but those below which they stand."""
        def below(made_class):
            return {made_class} | {one for other in made_class.__subclasses__() for one in below(other)}

        self.assertEqual({one.__name__.lower() for one in below(Paper) - {Paper, Denial, Endless}}, set(KINDS))

    def test_of_papers(self):
        for paper in some_papers():
            self.assertEqual(paper_kind(paper), type(paper).__name__.lower())
        for value in ODD + [Paper("plan", ()), Denial("book", ()), Denial("x"), Plan, "plan", TWO, at_most(1)]:
            self.assertIsNone(paper_kind(value))

    def test_errors(self):
        wrong = [value for value in ODD] + ["Plan", "paper", "denial", "rule", "case", "evening", "endless", "plan ", ("plan",)]
        for value in wrong:
            self.raises(BadPaper("kind"), part_names, value)
            self.raises(BadPaper("kind"), made, value, None)
        for value in ODD:
            for kind, names in (("plan", 1), ("shared", 2), ("gap", 3)):
                if not (isinstance(value, (list, tuple)) and len(value) == names):
                    self.raises(BadPaper("parts"), made, kind, value)
        self.raises(BadPaper("parts"), made, "plan", {0: 1})

    def test_copied(self):
        parts = [[1, [2]], [3]]
        paper = made("shared", parts)
        parts[0][1].append(9)
        parts.append(4)
        self.assertEqual(paper.parts, ((1, (2,)), (3,)))


class Texts(Checks, unittest.TestCase):
    def test_as_printed(self):
        self.assertEqual(paper_text(paper=Again(3)), "again 3")
        self.assertEqual(paper_text(Gap("never", -4, Ring([[[0, -1], []]]))), "gap never -4 [ ring ( ( ( 0 -1 ) ( ) ) ) ]")
        self.assertEqual(paper_text(Shared([], None)), "shared ( ) -")
        self.assertEqual(paper_text(Contrary("x" * 60, 10 ** 60 - 1)), "contrary " + "x" * 60 + " " + "9" * 60)

    def test_read_back(self):
        draws = Draws(551)
        for paper in some_papers() + [made_paper(draws, draws.below(6)) for _ in range(400)]:
            text = paper_text(paper)
            found = read_paper(text=text)
            self.assertEqual([type(found), found, paper_text(found), fault_of(text)], [type(paper), paper, text, None])

    def test_no_text(self):
        wrong = [True, False, 1.5, b"a", {}, {0: 1}, object(), Paper("plan", ()), Denial("book", ()), Plan, TWO, at_most(1), "", "a b", "a1", "-", "\xe4", "x" * 61, "a\n", "(",
                 10 ** 60, -10 ** 60, BIG, 10 ** 3000]
        for value in wrong:
            for paper in (Again(value), Shared([0], [[1, value]]), Gap("here", 1, Book([value])), Gap(value, 1, None)):
                self.raises(BadPaper("paper"), paper_text, paper)
        for value in ODD + [Paper("plan", ()), Denial("book", ()), Plan, "plan -", TWO]:
            self.raises(BadPaper("paper"), paper_text, value)

    def nested(self, many, inner):
        """A paper within so many brackets, of both sorts."""
        value = inner
        for at in range(many):
            value = Plan([value]) if at % 3 == 2 and many - at > 1 else [value]
        return value

    def test_brackets(self):
        """At most 50 brackets, of both sorts together, are open at one place."""
        for inner in (None, 7, "x"):
            value = inner
            for _ in range(50):
                value = [value]
            paper = Plan(value)
            text = "plan " + "( " * 50 + ("-" if inner is None else str(inner)) + " )" * 50
            self.assertEqual([paper_text(paper), read_paper(text) == paper], [text, True])
            self.raises(BadPaper("paper"), paper_text, Plan([value]))
            self.text_fault("plan " + "( " * 51 + ") " * 50 + ")", 51, read_paper)
        value = None
        for _ in range(25):
            value = [Again(value)]
        text = "again " + "( [ again " * 25 + "-" + " ] )" * 25
        self.assertEqual([paper_text(Again(value)), read_paper(text) == Again(value)], [text, True])
        for more in (Again(Again(value)), Again([value]), Again([0, [1], value])):
            self.raises(BadPaper("paper"), paper_text, more)
        self.text_fault("again [ again " + "( [ again " * 25 + "-" + " ] )" * 25 + " ]", 1 + 3 * 25, read_paper)
        # One behind another they may be more.
        many = Again([[[]] * 40] * 3)
        self.assertEqual(read_paper(paper_text(many)), many)
        deep = Again([])
        for _ in range(58):
            deep = Again([deep.number])
        self.raises(BadPaper("paper"), paper_text, deep)

    def test_faults(self):
        for value in ODD:
            if not isinstance(value, str):
                self.text_fault(value, 0, read_paper)
        faults = {"": 0, "Plan -": 0, "paper": 0, "plan": 1, "plan ": 1, "plan - ": 2, "plan (": 2, "plan ( ": 2, "plan ( ) )": 3, "plan )": 1, "plan ( ]": 2, "plan [ ring - )": 4,
                  "plan [ ring -": 4, "plan [": 2, "plan [ ]": 2, "plan [ nothing": 2, "plan ( 1 2": 4, "plan 01": 1, "plan -0": 1, "plan +1": 1, "plan a1": 1, "plan --": 1, "plan 1.5": 1,
                  "plan " + "1" * 61: 1, "plan -" + "1" * 61: 1, "plan " + "x" * 61: 1, "shared ( 0 1 )": 5, "shared - - -": 3, "gap here 4": 3, "plan \xe4": 1, "plan (1)": 1,
                  "plan  -": 1, "rule 1 2 | 0 0 0 0": 0, "plan True": None, "again -5": None, "plan [ ring ( ) ]": None, "plan ( - )\n": 3}
        for text, word in faults.items():
            if word is None:
                self.assertEqual(paper_text(read_paper(text)), text)
            else:
                self.text_fault(text, word, read_paper)
            self.assertEqual(fault_of(text), word)

    def test_bent_texts(self):
        """Texts that are changed at one word, against a stack of what is awaited."""
        draws = Draws(552)
        other = ["(", ")", "[", "]", "-", "0", "-1", "x", "plan", "shared", "gap", "", "01", "a1", ",", "|", "9" * 61]
        seen = set()
        for _ in range(3000):
            words = paper_text(made_paper(draws, draws.below(5))).split(" ")
            at = draws.below(len(words) + 1)
            how = draws.below(4)
            bent = words[:at] + [draws.pick(other)] * (how < 3) + words[at + (how in (1, 3)):]
            if how == 2:
                bent = words[:at]
            text = " ".join(bent)
            fault = fault_of(text)
            seen.add(fault is None)
            if fault is None:
                self.assertEqual(paper_text(read_paper(text)), text)
            else:
                self.text_fault(text, fault, read_paper)
        self.assertEqual(seen, {True, False})

    def test_long_text(self):
        begun = time.time()
        text = "plan ( " + "( 0 1 ) " * 12000 + ")"
        self.assertTrue(len(text) < 100000)
        self.assertEqual(paper_text(read_paper(text)), text)
        self.text_fault(text + " )", text.count(" ") + 1, read_paper)
        self.assertLess(time.time() - begun, 10)


if __name__ == "__main__":
    unittest.main()
