"""truthwell.reader."""

import time
import unittest

from truthwell.again import Again
from truthwell.ahead import ahead
from truthwell.ahead import fewest_ahead
from truthwell.ahead import never_ahead
from truthwell.bars import least_bars
from truthwell.books import Book
from truthwell.books import find_book
from truthwell.broken import Lawful
from truthwell.cases import Case
from truthwell.changed import with_rule
from truthwell.depths import depth_of
from truthwell.depths import find_plan
from truthwell.errors import BadCase
from truthwell.errors import BadPaper
from truthwell.errors import BadText
from truthwell.evenings import Evening
from truthwell.fading import fading
from truthwell.fronts import RoundFront
from truthwell.fronts import coin_front
from truthwell.fronts import round_front
from truthwell.gaps import gap
from truthwell.pair_plans import by_groups
from truthwell.papers import Denial
from truthwell.papers import Paper
from truthwell.plans import Plan
from truthwell.questions import Question
from truthwell.reader import is_shown
from truthwell.reader import kind_of
from truthwell.reader import read_value
from truthwell.reader import value_text
from truthwell.ready import after_truths
from truthwell.ready import at_most
from truthwell.ready import false_yes
from truthwell.ready import never_running
from truthwell.ready import truthful
from truthwell.rings import find_ring
from truthwell.round_books import in_rounds
from truthwell.rules import Rule
from truthwell.stocks import Stock
from truthwell.stories import replay
from truthwell.stories import story_text
from truthwell.untold import tellings
from truthwell.whom import NoCrew
from truthwell.whom import crews
from truthwell.wishes import Wish

from helpers import Checks
from helpers import Draws
from helpers import ODD
from helpers import made_cases
from plain import all_clouds
from plain_logs import PlainEvening
from test_depths import chain
from test_depths import ready_cases
from test_evenings import made_deed
from test_evenings import made_evening
from test_evenings import shown
from test_late import ONCE
from test_late import cases as log_cases
from test_papers_as_texts import NEVER
from test_papers_as_texts import TWO
from test_papers_as_texts import made_paper
from test_papers_as_texts import some_papers


def first_six(draws):
    """Values of the first six kinds."""
    found = []
    for case in made_cases(561, 30):
        found += [("case", case), ("stock", case.stock), ("rule", case.rule), ("wish", case.wish)] + [("question", question) for question in case.stock]
    return found + [("evening", made_evening(draws, case, 12)) for case in log_cases()]


class Values(Checks, unittest.TestCase):
    def test_kinds(self):
        for kind, value in first_six(Draws(562)):
            self.assertEqual(kind_of(value=value), kind)
        for paper in some_papers():
            self.assertEqual(kind_of(paper), type(paper).__name__.lower())
        for value in ODD + [Paper("plan", ()), Denial("x"), Rule, Evening, "rule 1 2 | 0 0 0 0"]:
            self.assertIsNone(kind_of(value))

    def test_read_back(self):
        draws = Draws(563)
        for kind, value in first_six(draws):
            text = value_text(value=value)
            self.assertEqual(text, f"{kind} {str(value)}" if kind != "evening" else f"evening {str(value.case)} ; {story_text(value.story)}")
            found = read_value(text=text)
            self.assertEqual([type(found), found == value, value_text(found)], [type(value), True, text])
            if kind == "evening":
                self.assertEqual(shown(found), shown(value))
        for value in some_papers() + [made_paper(draws, 4) for _ in range(60)]:
            text = value_text(value)
            self.assertEqual([text.split(" ")[0], read_value(text), value_text(read_value(text))], [kind_of(value), value, text])

    def test_as_printed(self):
        self.assertEqual([value_text(Question(0, [0, 1])), value_text(Evening(ONCE))[-3:], value_text(Stock.splits(1)), value_text(truthful())],
                         ["question 0 01", "; -", "stock 1 1 2 | 0 0", "rule 1 2 | 0 - - 0"])
        self.assertEqual(read_value("evening " + str(ONCE) + " ; -"), Evening(ONCE))
        self.assertEqual(read_value("wish classes 0 1 0"), Wish.of([5, 6, 5]))

    def test_no_text(self):
        for value in ODD + [Paper("plan", ()), Denial("book", ()), Again(True), Again(10 ** 60), Plan([{}]), Lawful("a1"), Rule, "wish most 2"]:
            self.raises(BadPaper("value"), value_text, value)
        deep = Again(())
        for _ in range(51):
            deep = Again([deep.number])
        self.raises(BadPaper("value"), value_text, deep)

    def test_faults(self):
        for value in ODD:
            if not isinstance(value, str):
                self.text_fault(value, 0, read_value)
        faults = {"": 0, "Rule 1 2": 0, "paper": 0, "rule": 1, "rule 1 2 | 1 0 0 1": 8, "rule 1 2 | 0 0 0 0 |": 9, "rule 1 2 | 0 0 0 0 ;": 8, "question 0": 2, "question 4 0": 1, "question 0 01 1": 3,
                  "stock 2 1 2 | 0 01 | 0 01": 9, "stock 2 1 2 |": 5, "wish": 1, "wish most 17": 2, "wish most 2 2": 3, "wish classes": 2, "wish classes 1": 2, "wish classes 0 2": 3, "wish  most": 1,
                  "wish classes" + " 0" * 17: 18, "case 2 1 2 ; 1 2 | 0 - - 0 ; 0 ; most 1": 14, "case 1 1 2 ; 2": 5, "plan ( - ) -": 4, "plan": 1, "evening": 1, "nothing": 0, "evening -": 1, " rule": 0}
        for text, word in faults.items():
            self.text_fault(text, word, read_value)

    def test_faults_of_evenings(self):
        head = "evening " + str(ONCE) + " ;"
        many = len(head.split(" "))
        faults = {"": 0, " ": 0, " - -": 1, " ask": 1, " ask 0 ,": 3, " ask 0 , hear 0": 5, " ask 0 0": 2, " ask 0 ; -": 2, " undo": 0,
                  # All words can stand: then the first deed that is refused cannot.
                  " ask 2": 0, " ask 0 , hear 0 2": 3, " ask 0 , hear 1 0 , ask 9": 3, " ask 1 , hear 0 1 , ask 1 , hear 1 1": 10, " ask 0 , unhear 0": 3,
                  " ask 0 , ask 1 , forget 0 , forget 0": 9, " ask " + "9" * 60: 0,
                  # A word that cannot stand comes first, wherever it is.
                  " ask 2 , ask": 4, " ask 2 , ask 0 ,": 6, " hear 0 0 , hear 0 0 0": 7, " ask 2 -": 2}
        for text, word in faults.items():
            self.text_fault(head + text, many + word, read_value)
        self.text_fault(head[:-2], many - 1, read_value)
        self.text_fault(head[:-2] + " 0", many - 1, read_value)
        self.text_fault("evening 2 1 2 ; 1 2 | 0 - - 0 ; 0 ; most 1 ; -", 14, read_value)

    def test_refused_deeds(self):
        """The first word of the first deed that is refused, against plain evenings."""
        draws = Draws(564)
        many = 0
        for case in log_cases():
            plain, deeds, refused = PlainEvening(case), [], None
            for _ in range(10):
                deed = made_deed(draws, case, plain.many)
                if refused is None and plain.refused(deed):
                    refused = len(deeds)
                deeds.append(deed)
            text = "evening " + str(case) + " ; " + story_text(deeds)
            if refused is not None:
                many += 1
                ahead_of = len(("evening " + str(case) + " ;").split(" ")) + sum(len(deed) + 1 for deed in deeds[:refused])
                self.text_fault(text, ahead_of, read_value)
            else:
                self.assertEqual(read_value(text), replay(case, deeds))
        self.assertGreater(many, 30)

    def test_new_values(self):
        evening = Evening(ONCE)
        text = value_text(evening)
        evening.ask(0)
        self.assertEqual([text[-1], value_text(evening)[-5:]], ["-", "ask 0"])
        one, two = read_value(text), read_value(text)
        one.ask(0)
        self.assertEqual(two.asked, ())

    def test_short_time(self):
        begun = time.time()
        rows = [Question(0, [(x >> k) & 1 for x in range(16)]) for k in range(4)]
        stock = Stock(16, 1, 2, rows)
        case = Case.alike(stock, at_most(63), Wish.each(16))
        self.assertEqual(read_value(value_text(case)), case)
        text = value_text(Evening(ONCE))[:-1] + " , ".join(f"ask 1 , forget {at}" for at in range(2500))
        self.assertEqual([len(text) < 100000, len(read_value(text))], [True, 5000])
        with self.assertRaises(BadText):
            read_value(text + " , forget 7")
        self.assertLess(time.time() - begun, 10)


class Shown(Checks, unittest.TestCase):
    def test_what_is_made(self):
        """Just the papers that are told, each for the case of which it tells."""
        seen = {}
        for case in made_cases(565, 40, 3) + ready_cases()[::4]:
            papers = [find_plan(case), find_ring(case), fading(case), ahead(case, []), never_ahead(case), crews(case), tellings(case), find_book(case, 0)]
            if depth_of(case) is not None and all_clouds(case, 2, 300) is not None:
                papers.append(round_front(case))
            if fading(case):
                papers.append(by_groups(case))
            if case.rule.is_even:
                papers.append(gap(case))
            for paper in papers:
                if paper is None:
                    continue
                kind = kind_of(paper)
                wanted = kind != "shared"
                seen[kind] = seen.get(kind, 0) + 1
                self.assertIs(is_shown(case=case, value=paper), wanted, kind)
                self.assertIs(is_shown(case, read_value(value_text(paper))), wanted)
        self.assertEqual(set(seen), {"plan", "ring", "fading", "grows", "shared", "enough", "shadowring", "crews", "nocrew", "tellings", "book", "roundfront", "untold", "gap"})

    def test_not_right(self):
        other = with_rule(TWO, at_most(2), [0, 0])
        for paper in (find_plan(TWO), fading(TWO), ahead(TWO, [1, 1, 1]), crews(TWO), tellings(TWO), round_front(TWO)):
            self.assertEqual([is_shown(TWO, paper), is_shown(other, paper)], [True, False])
        for paper in (find_ring(NEVER), never_ahead(NEVER), crews(NEVER), gap(NEVER), by_groups(NEVER)):
            self.assertEqual([is_shown(NEVER, paper), is_shown(TWO, paper)], [True, False])
        # Books of any number, crews for any number of questions alone.
        for most in (0, 1, 2):
            self.assertTrue(is_shown(TWO, find_book(TWO, most)))
            self.assertFalse(is_shown(TWO, crews(TWO, most)))
        self.assertTrue(is_shown(TWO, ahead(TWO, [1] * 5)))
        self.assertFalse(is_shown(TWO, NoCrew([])))

    def test_other_papers(self):
        """Papers whose check functions are not told here, and all other values."""
        for value in [coin_front(TWO, [1, 1]), in_rounds(TWO, 1, 3), in_rounds(TWO, 1, 2), fewest_ahead(TWO, 2), ahead(TWO, [1]), least_bars(TWO, None, []), Lawful([(0,), (0,)]),
                      Again(3), Paper("plan", find_plan(TWO).table), Denial("book", ()), TWO, TWO.rule, Evening(TWO), Plan, Book, "plan"] + ODD:
            self.assertIs(is_shown(TWO, value), False)

    def test_no_errors_of_the_case(self):
        """A rule that is not even-handed has no gaps; a case that is never has no fronts."""
        uneven = Case.alike(TWO.stock, false_yes(1), Wish.each(2))
        self.assertFalse(uneven.rule.is_even)
        self.assertIs(is_shown(uneven, gap(NEVER)), False)
        self.assertIs(is_shown(NEVER, round_front(TWO)), False)
        self.assertIs(is_shown(NEVER, RoundFront([(1, 1)], [None], [None, None])), False)
        self.assertIs(is_shown(Case.alike(TWO.stock, after_truths(1), Wish.each(2)), by_groups(NEVER)), False)

    def test_errors(self):
        self.odd(lambda value: is_shown(value, find_plan(TWO)), lambda value: BadCase("case"))
        more = chain([0, 0, 63, 0])
        for value in (Plan([]), find_ring(NEVER), crews(NEVER), tellings(NEVER), round_front(TWO), never_ahead(NEVER), fading(TWO)):
            self.assertIs(is_shown(more, value), False)
        self.assertTrue(is_shown(Case.alike(TWO.stock, never_running(), Wish.each(2)), find_ring(NEVER)))


if __name__ == "__main__":
    unittest.main()
