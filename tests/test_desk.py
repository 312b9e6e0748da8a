"""truthwell.desk, truthwell.desk_words, truthwell.desk_deeds, truthwell.desk_looks."""

import time
import unittest

from truthwell.books import Book
from truthwell.books import find_book
from truthwell.cases import Case
from truthwell.checks import is_name
from truthwell.depths import find_plan
from truthwell.desk import Desk
from truthwell.errors import BadLine
from truthwell.errors import BadList
from truthwell.errors import BadNumber
from truthwell.errors import BadPrices
from truthwell.errors import BadText
from truthwell.errors import Broken
from truthwell.errors import Heard
from truthwell.errors import Late
from truthwell.errors import Never
from truthwell.errors import NoAsked
from truthwell.errors import NoDeed
from truthwell.errors import NoHeap
from truthwell.errors import NoName
from truthwell.errors import NoQuestion
from truthwell.errors import Settled
from truthwell.errors import TooMany
from truthwell.errors import Unheard
from truthwell.errors import Unlike
from truthwell.evenings import Evening
from truthwell.questions import Question
from truthwell.reader import read_value
from truthwell.reader import value_text
from truthwell.ready import after_truths
from truthwell.ready import at_most
from truthwell.ready import never_running
from truthwell.ready import truthful
from truthwell.rings import find_ring
from truthwell.stocks import Stock
from truthwell.wishes import Wish

from helpers import BIG
from helpers import Draws
from helpers import ODD
from test_depths import chain
from test_evenings import shown
from test_papers_as_texts import some_papers
from test_round_books import LOOSE
from test_round_books import wide

BEGIN = ["keep s stock 2 1 2 | 0 01", "keep r rule 1 2 | 0 1 1 0 | 1 - - 1", "case c s r : classes 0 1"]
CHANGING = "keep case judge book forget evening ask hear unhear drop undo redo".split()
ONCE = Case.alike(Stock(2, 1, 2, [Question(0, [0, 1])]), at_most(1), Wish.each(2))


def begun(*lines):
    """A desk to which these lines are told, behind the first ones."""
    desk = Desk()
    desk.run(BEGIN + list(lines))
    return desk


def told_by(desk):
    """All that a desk shows."""
    return desk.names, [value_text(desk.value_of(name)) for name in desk.names], [shown(desk.value_of(name)) for name in desk.names if isinstance(desk.value_of(name), Evening)], desk.lines()


class Lines(unittest.TestCase):
    def fails(self, desk, line, error, number=None):
        """The line raises the error, and leaves the desk as it was."""
        before = told_by(desk)
        with self.subTest(line=line):
            with self.assertRaises(BadLine) as caught:
                desk.tell(line)
            if number is not None:
                self.assertEqual(caught.exception.line, number)
            self.assertEqual([type(caught.exception.error), vars(caught.exception.error)], [type(error), vars(error)])
            self.assertEqual(set(vars(caught.exception)), {"line", "error"})
            self.assertEqual(told_by(desk), before)

    def faults(self, desk, faults):
        for line, word in faults.items():
            self.fails(desk, line, BadText(0, word))

    def answers(self, desk, pairs):
        for line, answer in pairs:
            with self.subTest(line=line):
                self.assertEqual(desk.tell(line), answer)

    def test_keep(self):
        desk = Desk()
        values = [ONCE, ONCE.stock, ONCE.rule, ONCE.wish, Question(0, [0, 1]), Evening(ONCE)] + some_papers()
        for at, value in enumerate(values):
            self.assertEqual(desk.tell(f"keep v{at} {value_text(value)}"), "kept")
            self.assertEqual([desk.value_of(f"v{at}") == value, desk.tell(f"text v{at}")], [True, value_text(value)])
        self.assertEqual(desk.tell("names"), " ".join(sorted(f"v{at}" for at in range(len(values)))))
        # A name that is given anew is that of the new value, of whatever kind.
        self.answers(desk, [("keep v0 wish most 1", "kept"), ("text v0", "wish most 1"), ("keep v0 again 3", "kept"), ("text v0", "again 3"), ("keep abcdefghijkl wish most 1", "kept")])
        self.faults(desk, {"keep": 1, "keep a": 2, "keep A wish most 1": 1, "keep 1 wish most 1": 1, "keep a1b2c3d4e5f6g wish most 1": 1, "keep - wish most 1": 1, "keep  wish most 1": 1,
                           "keep a nothing": 2, "keep a wish": 3, "keep a wish most 17": 4, "keep a wish most 1 1": 5, "keep a stock 2 1 2 | 0 01 | 0 01": 11, "keep a rule 1 2 | 1 0 0 1": 10,
                           "keep a plan ( ": 4, "keep a plan - -": 4, "keep a v0": 2, "keep a evening v0": 3, f"keep a evening {str(ONCE)} ; ask 0 , hear 0 2": 33,
                           f"keep a evening {str(ONCE)} ; ask 0 , hear 0 2 ,": 37})
        self.assertNotIn("a", desk)

    def test_case(self):
        desk = begun("keep w wish most 1", "keep r2 rule 2 2 | 0 - - 0 0 - - 0", "keep r3 rule 1 3 | 0 - - - 0 - - - 0")
        self.answers(desk, [("case d s r : most 1", "kept"), ("text d", "case " + str(Case.alike(ONCE.stock, ONCE.rule, Wish.left(1)))), ("text c", "case " + str(ONCE)),
                            ("case c s r : classes 0 0", "kept"), ("depth c", "0"), ("case s s r : classes 0 1", "kept"), ("depth s", "3"), ("keep s stock 2 1 2 | 0 01", "kept")])
        self.faults(desk, {"case": 1, "case d": 2, "case d s": 3, "case d s r": 4, "case d s r :": 5, "case d s r : ": 5, "case d s r classes 0 1": 4, "case D s r : most 1": 1, "case d r s : most 1": 2,
                           "case d s s : most 1": 3, "case d c r : most 1": 2, "case d s c : most 1": 3, "case d x r : most 1": 2, "case d s r : w": 5, "case d s r : most": 6, "case d s r : most 0": 6,
                           "case d s r : most 1 1": 7, "case d s r : classes 1": 6, "case d s r : classes 0 2": 7, "case d s r : classes" + " 0" * 17: 22, "case d s r : wish most 1": 5})
        self.fails(desk, "case d s r2 : most 1", Unlike("answerers"))
        self.fails(desk, "case d s r3 : classes 0", Unlike("heaps"))
        for wish in ("classes 0", "classes 0 1 2"):
            self.fails(desk, "case d s r : " + wish, Unlike("things"))

    def test_judge(self):
        desk = begun("keep runs rule 1 2 | 0 1 1 0 | 0 - - 0", "case n s runs : classes 0 1")
        self.answers(desk, [("judge p c", "plan"), ("text p", value_text(find_plan(ONCE))), ("shown c p", "yes"), ("shown n p", "no"), ("judge p n", "ring"), ("shown n p", "yes"),
                            ("shown c p", "no"), ("judge n n", "ring")])
        self.assertEqual(desk.value_of("p"), find_ring(Case.alike(ONCE.stock, never_running(), Wish.each(2))))
        self.faults(desk, {"judge": 1, "judge p": 2, "judge p p": 2, "judge p n": 2, "judge p c c": 3, "judge P c": 1, "judge p s": 2})

    def test_book(self):
        desk = begun()
        self.answers(desk, [("book b c 2", "book"), ("text b", value_text(find_book(ONCE, 2))), ("shown c b", "yes"), ("book b c 3", "none"), ("text b", value_text(find_book(ONCE, 2))),
                            ("book x c 3", "none"), ("names", "b c r s"), ("book c c 0", "book")])
        self.assertEqual(type(desk.value_of("c")), Book)
        desk = begun()
        self.faults(desk, {"book": 1, "book b": 2, "book b c": 3, "book b c -1": 3, "book b c -": 3, "book b c 01": 3, "book b s 1": 2, "book b c 1 1": 4, "book b c " + "1" * 61: 3, "book b c ": 3})
        self.fails(desk, "book b c 13", BadNumber("most"))
        self.fails(desk, "book b c " + "1" * 60, BadNumber("most"))

    def test_forget_text_names(self):
        desk = begun()
        self.answers(desk, [("names", "c r s"), ("text r", "rule " + str(ONCE.rule)), ("forget r", "forgotten"), ("names", "c s"), ("depth c", "3"), ("forget c", "forgotten"), ("forget s", "forgotten"),
                            ("names", "-")])
        desk = begun()
        self.faults(desk, {"forget": 1, "forget x": 1, "forget r r": 2, "forget R": 1, "text": 1, "text x": 1, "text c c": 2, "names c": 1, "names ": 1, "forget  r": 1})

    def test_numbers(self):
        desk = begun("keep runs rule 1 2 | 0 1 1 0 | 0 - - 0", "case n s runs : classes 0 1", "keep e stock 2 1 2", "case o e r : classes 0 1", "case d e r : most 2",
                     f"keep l case {str(LOOSE)}")
        self.answers(desk, [("depth c", "3"), ("depth n", "never"), ("depth o", "never"), ("depth d", "0"), ("fewest c 5", "0 0 0"), ("fewest c 3", "0 0 0"), ("fewest c 2", "none"), ("fewest d 0", "-"),
                            ("fewest n 9", "none"), ("rounds c 1", "3"), ("rounds c " + "9" * 60, "3"), ("rounds n 1", "never"), ("rounds d 1", "0"), ("rounds l 1", "never"), ("rounds l 2", "2"),
                            ("coins c : 7", "21"), ("coins c : " + "9" * 60, str(3 * (10 ** 60 - 1))), ("coins n : 1", "never"), ("coins d : -", "0"), ("coins l : 1 1 5", "6")])
        self.faults(desk, {"depth": 1, "depth x": 1, "depth s": 1, "depth c c": 2, "fewest c": 2, "fewest c -1": 2, "fewest c x": 2, "fewest c 1 1": 3, "fewest r 1": 1, "rounds c": 2, "rounds c -": 2,
                           "rounds c 1 2": 3, "coins c": 2, "coins c 7": 2, "coins c :": 3, "coins c : x": 3, "coins c : -1": 3, "coins c : 1 -": 4, "coins c : - 1": 4, "coins c : ": 3, "coins s : 1": 1,
                           "coins c : 01": 3, "depth  c": 1, "coins c : 1 ": 4, "coins c : " + "1" * 61: 3})
        self.fails(desk, "fewest c 10", BadNumber("most"))
        self.fails(desk, "rounds c 0", BadNumber("rounds"))
        for prices in ("0", "1 1", "-"):
            self.fails(desk, "coins c : " + prices, BadPrices("prices"))

    def test_ahead(self):
        desk = begun("keep u stock 3 1 2 | 0 001 | 0 010", "keep f rule 1 2 | 0 - - 0", "case t u f : classes 0 1 1", "case n u f : most 1", "case w u f : most 2")
        self.answers(desk, [("ahead c 0 0 0", "enough"), ("ahead c 0 0", "shared 0 1 : 0 1"), ("ahead c -", "shared 0 1 : -"), ("ahead c 0", "shared 0 1 : 0"), ("ahead t 0", "shared 0 1 : 0"),
                            ("ahead t 1", "shared 0 2 : 0"), ("ahead t 0 1", "enough"), ("ahead n 1 0", "enough"), ("ahead w -", "shared 0 1 2 : -"), ("ahead w 0", "enough")])
        self.faults(desk, {"ahead": 1, "ahead c": 2, "ahead c ": 2, "ahead c x": 2, "ahead c - 0": 3, "ahead c 0 -": 3, "ahead c -1": 2, "ahead c 0 x": 3, "ahead c 00": 2, "ahead s 0": 1, "ahead c : 0": 2,
                           "ahead c 0  0": 3})
        self.fails(desk, "ahead c 0 1", NoQuestion(1))
        self.fails(desk, "ahead c " + "9" * 60, NoQuestion(10 ** 60 - 1))
        desk.run(["keep y rule 1 2 | 0 0 0 0", "case z s y : most 2"])
        self.assertEqual(desk.tell("ahead z" + " 0" * 10), "enough")
        self.fails(desk, "ahead z" + " 0" * 11, TooMany("hearings", 1024))

    def test_fades_shown_whole(self):
        desk = begun("keep a rule 1 2 | 1 - - 1 | 1 1 1 1", "case g s a : classes 0 1", f"keep h case {str(Case(ONCE.stock, never_running(), [0, 1], Wish.each(2)))}", "judge p c", "keep q plan -",
                     "keep e stock 2 1 2", "case o e r : classes 0 1")
        self.answers(desk, [("fades c", "yes"), ("fades g", "no 0"), ("fades h", "no 1"), ("shown c p", "yes"), ("shown g p", "no"), ("shown c q", "no"), ("shown c c", "no"), ("shown c s", "no"),
                            ("whole c : 1", "3 3 3 3"), ("whole c : 7", "3 3 3 21"), ("whole o : -", "never never never never"), ("whole g : 2", "1 1 1 2")])
        self.faults(desk, {"fades": 1, "fades p": 1, "fades c c": 2, "shown": 1, "shown c": 2, "shown c x": 2, "shown p c": 1, "shown c p p": 3, "whole c": 2, "whole c 1": 2, "whole c :": 3, "whole c : 1 x": 4,
                           "whole p : 1": 1, "whole c : -1": 3})
        self.fails(desk, "whole c : 0", BadPrices("prices"))
        self.fails(desk, "whole c : -", BadPrices("prices"))
        desk.run(["keep m rule " + str(at_most(3)), "case d s m : classes 0 1"])
        self.fails(desk, "whole d : 1", TooMany("questions", 5))

    def test_evenings(self):
        desk = begun("keep w stock 3 1 2 | 0 001 | 0 010", "keep f rule 1 2 | 0 - - 0", "case l w f : most 2")
        self.answers(desk, [("evening e c", "kept"), ("open e", "0 1"), ("sure e", "-"), ("left e", "3"), ("next e", "0"), ("ask e 0", "0"), ("ask e 0", "1"), ("hear e 1 0", "heard"), ("lies e 1", "some"),
                            ("open e", "0 1"), ("text e", "evening " + str(ONCE) + " ; ask 0 , ask 0 , hear 1 0"), ("hear e 0 0", "heard"), ("open e", "0"), ("sure e", "0"), ("left e", "0"),
                            ("lies e 0", "none"), ("unhear e 1", "unheard"), ("sure e", "-"), ("undo e", "undone"), ("sure e", "0"), ("redo e", "redone"), ("sure e", "-"), ("drop e 1", "dropped"),
                            ("left e", "2"), ("open e", "0 1"), ("ask e 0", "2"), ("undo e", "undone"), ("ask e 0", "2"), ("hear e 2 0", "heard"), ("ask e 0", "3"), ("hear e 3 0", "heard"), ("lies e 3", "none"),
                            ("evening f l", "kept"), ("ask f 1", "0"), ("hear f 0 0", "heard"), ("open f", "0 2"), ("sure f", "0 2"), ("left f", "0"), ("evening e l", "kept"), ("open e", "0 1 2")])
        self.faults(desk, {"evening": 1, "evening g": 2, "evening g e": 2, "evening G c": 1, "evening g c c": 3, "ask": 1, "ask e": 2, "ask c 0": 1, "ask e -1": 2, "ask e 0 0": 3, "ask e -": 2, "hear e 0": 3,
                           "hear e": 2, "hear e 0 0 0": 4, "hear e x 0": 2, "hear c 0 0": 1, "unhear e": 2, "unhear e 0 0": 3, "drop e": 2, "drop x 0": 1, "undo": 1, "undo c": 1, "undo e 1": 2, "redo": 1,
                           "redo e e": 2, "open c": 1, "open": 1, "open e e": 2, "sure c": 1, "sure e 0": 2, "lies e": 2, "lies c 0": 1, "left c": 1, "left e e": 2, "next": 1, "next c": 1, "unhear e  0": 2})

    def test_errors_of_evenings(self):
        desk = begun("evening e c", "ask e 0", "ask e 0", "hear e 0 0", "keep n rule 1 2 | 0 1 1 0 | 0 - - 0", "case n s n : classes 0 1", "evening n n")
        for line, error in (("ask e 1", NoQuestion(1)), ("hear e 2 0", NoAsked(2)), ("hear e 1 2", NoHeap(2)), ("hear e 0 1", Heard(0)), ("unhear e 1", Unheard(1)), ("unhear e 9", NoAsked(9)),
                            ("drop e 2", NoAsked(2)), ("redo e", NoDeed()), ("undo n", NoDeed()), ("lies e 1", Unheard(1)), ("lies e 2", NoAsked(2)), ("left e", Late(1)), ("next e", Late(1)),
                            ("next n", Never()), ("ask e " + "9" * 60, NoQuestion(10 ** 60 - 1))):
            self.fails(desk, line, error)
        self.answers(desk, [("left n", "never"), ("hear e 1 0", "heard"), ("ask e 0", "2"), ("hear e 2 1", "heard"), ("ask e 0", "3")])
        self.fails(desk, "hear e 3 1", Broken(3))
        self.fails(desk, "next e", Late(3))
        self.answers(desk, [("hear e 3 0", "heard"), ("sure e", "0")])
        self.fails(desk, "next e", Settled())

    def test_too_many(self):
        begun_at = time.time()
        desk = Desk()
        desk.run([f"keep m case {str(chain([0, 0, 63, 0]))}", f"keep w case {str(wide())}", "evening e m"])
        for line in ("depth m", "judge x m", "book x m 1", "coins m : 1", "whole m : 1", "left e", "next e"):
            self.fails(desk, line, TooMany("situations", 4096))
        self.fails(desk, "rounds w 1", TooMany("clouds", 1000))
        self.fails(desk, "judge x w", TooMany("layer", 300))
        self.assertLess(time.time() - begun_at, 10)

    def test_first_words(self):
        desk = begun()
        self.faults(desk, {"": 0, " ": 0, "-": 0, "Keep a wish most 1": 0, "keep": 1, " names": 0, "help": 0, "names\n": 0, "c": 0, "wish most 1": 0, "unask e 0": 0, "unheard": 0, "back": 0, "run": 0, "tell names": 0})
        for value in ODD:
            if not isinstance(value, str):
                self.fails(desk, value, BadText(0, 0))
        for line in (("names",), b"names", ["names"]):
            self.fails(desk, line, BadText(0, 0))


class Numbers(unittest.TestCase):
    def number(self, call, *args):
        with self.assertRaises(BadLine) as caught:
            call(*args)
        return caught.exception.line

    def test_lines_are_counted(self):
        """Lines that were answered, by tell and run; not those of a run that raised, nor those that raised."""
        desk = Desk()
        self.assertEqual([self.number(desk.tell, "x"), self.number(desk.tell, line := "depth c"), line], [0, 0, "depth c"])
        desk.run(BEGIN)
        self.assertEqual(self.number(desk.tell, "x"), 3)
        desk.tell("names")
        self.assertEqual([self.number(desk.tell, "x"), self.number(desk.run, ["names", "names", "x", "names"]), self.number(desk.tell, None)], [4, 6, 4])
        self.assertEqual([self.number(desk.run, ["x"]), self.number(desk.run, ("names", "keep a wish most 1", "keep b wish most 1", 7))], [4, 7])
        self.assertEqual([desk.run([]), self.number(desk.tell, "x"), desk.run(["names"]), self.number(desk.tell, "x")], [[], 4, ["c r s"], 5])
        desk.back()
        self.assertEqual([self.number(desk.tell, "x"), desk.tell("names"), self.number(desk.tell, "x")], [5, "r s", 6])

    def test_run_all_or_none(self):
        desk = begun("evening e c", "ask e 0", "ask e 0", "undo e")
        before = told_by(desk)
        for lines in (["ask e 0", "hear e 1 0", "forget c", "depth c"], ["redo e", "undo e", "undo e", "undo e"], ["keep c wish most 1", "forget s", "forget r", "forget c", "forget e", ""], ["back"]):
            with self.assertRaises(BadLine):
                desk.run(lines)
            self.assertEqual(told_by(desk), before)
        self.assertEqual(desk.run(("redo e", "text e")), ["redone", "evening " + str(ONCE) + " ; ask 0 , ask 0"])
        # Behind a run that raised, back takes back what was ahead of it.
        self.assertEqual(self.number(desk.run, ["keep a wish most 1", "x"]), 10)
        desk.back()
        self.assertEqual(desk.tell("text e"), "evening " + str(ONCE) + " ; ask 0")
        for value in ODD + ["names", {"names": 1}, 5]:
            if not isinstance(value, (list, tuple)):
                with self.assertRaises(BadList) as caught:
                    desk.run(lines=value)
                self.assertEqual(vars(caught.exception), {"part": "lines"})


class Back(unittest.TestCase):
    def test_one_by_one(self):
        """Each changing line is taken back, also where nothing came of it; others are left out."""
        lines = BEGIN + ["evening e c", "ask e 0", "ask e 0", "hear e 0 1", "unhear e 0", "drop e 1", "undo e", "redo e", "judge p c", "book b c 2", "book n c 3", "forget s", "keep c wish most 1", "forget p"]
        desk, states = Desk(), []
        for line in lines:
            states.append(told_by(desk))
            desk.tell(line)
            for other in ("names", "text r"):
                if other == "names" or "r" in desk:
                    desk.tell(other)
        self.assertEqual(desk.lines(), tuple(lines))
        while states:
            self.assertIsNone(desk.back())
            self.assertEqual(told_by(desk), states.pop())
        for _ in range(2):
            with self.assertRaises(NoDeed):
                desk.back()
        self.assertEqual([desk.lines(), desk.names, len(desk)], [(), (), 0])

    def test_changing_lines(self):
        desk = begun("evening e c")
        for line in ("names", "text c", "depth c", "ahead c 0", "fewest c 1", "rounds c 1", "coins c : 1", "fades c", "shown c e", "whole c : 1", "open e", "sure e", "left e", "next e"):
            before = desk.lines()
            desk.tell(line)
            self.assertEqual(desk.lines(), before, line)
        for line in ("keep w wish most 1", "case d s r : most 1", "judge p c", "book b c 9", "ask e 0", "hear e 0 0", "unhear e 0", "undo e", "redo e", "drop e 0", "evening f c", "forget f"):
            before = desk.lines()
            desk.tell(line)
            self.assertEqual(desk.lines(), before + (line,))
        with self.assertRaises(BadLine):
            desk.tell("forget f")
        self.assertEqual(desk.lines()[-1], "forget f")
        self.assertEqual({line.split(" ")[0] for line in desk.lines()}, set(CHANGING))

    def test_told_to_a_new_desk(self):
        """The changing lines make a desk that answers every line alike."""
        draws = Draws(581)
        for _ in range(6):
            desk = Desk()
            desk.run(BEGIN + ["keep a rule " + str(after_truths(1)), "case d s a : most 1", "evening e c", "evening f d"])
            for _ in range(60):
                line = self.made_line(draws)
                try:
                    desk.tell(line)
                except BadLine:
                    pass
                if draws.below(8) == 0 and desk.lines():
                    desk.back()
            other = Desk()
            other.run(desk.lines())
            self.assertEqual(told_by(other), told_by(desk))
            for _ in range(60):
                line = self.made_line(draws)
                self.assertEqual(self.answer(desk, line), self.answer(other, line))
            self.assertEqual(told_by(other), told_by(desk))

    def answer(self, desk, line):
        try:
            return desk.tell(line)
        except BadLine as caught:
            return type(caught.error), vars(caught.error)

    def made_line(self, draws):
        case, evening, name = draws.pick("cd"), draws.pick("ef"), draws.pick(["a", "b", "c", "d", "e", "f", "p"])
        return draws.pick([f"ask {evening} 0", f"ask {evening} 0", f"hear {evening} {draws.below(5)} {draws.below(2)}", f"hear {evening} {draws.below(5)} {draws.below(2)}", f"unhear {evening} {draws.below(4)}",
                           f"drop {evening} {draws.below(4)}", f"undo {evening}", f"redo {evening}", f"redo {evening}", f"evening {evening} {case}", f"judge p {case}", f"book b {case} {draws.below(4)}",
                           f"shown {case} {name}", f"text {name}", "names", f"open {evening}", f"sure {evening}", f"left {evening}", f"next {evening}", f"lies {evening} {draws.below(3)}", f"depth {case}",
                           f"forget {draws.pick('bp')}", f"keep {draws.pick('bp')} wish most {draws.below(4)}"])


class Values(unittest.TestCase):
    def test_names(self):
        desk = begun("evening e c")
        self.assertEqual([desk.names, len(desk), "e" in desk, "x" in desk], [("c", "e", "r", "s"), 4, True, False])
        self.assertEqual([len(Desk()), Desk().names, Desk().lines()], [0, (), ()])
        for value in ODD + ["C", "c ", "cc", b"c", ("c",), ["c"], {"c"}]:
            self.assertIs(value in desk, False)
            with self.assertRaises(NoName) as caught:
                desk.value_of(value)
            self.assertIs(caught.exception.value, value)
        self.assertEqual([desk.value_of(name="c"), desk.value_of("r"), desk.value_of("s")], [ONCE, ONCE.rule, ONCE.stock])

    def test_twins(self):
        """What is told of an evening is a twin: it does not change the desk, nor the other way round."""
        desk = begun("evening e c", "ask e 0", "undo e")
        twin = desk.value_of("e")
        twin.redo()
        twin.ask(0)
        self.assertEqual([desk.tell("text e")[-3:], len(twin)], ["; -", 2])
        desk.tell("ask e 0")
        self.assertEqual([twin.asked, desk.value_of("e").asked, desk.value_of("e") is desk.value_of("e")], [((0, 0), (1, 0)), ((0, 0),), False])

    def test_desks_are_apart(self):
        one, other = begun(), begun()
        one.run(["forget c", "evening e c"][:1])
        self.assertEqual([one.names, other.names], [("r", "s"), ("c", "r", "s")])

    def test_names_are_names(self):
        for name in ("a", "z9", "abcdefghijkl", "keep", "names", "never"):
            self.assertTrue(is_name(name))
            desk = Desk()
            self.assertEqual([desk.tell(f"keep {name} wish most 1"), desk.tell(f"text {name}"), desk.tell("names")], ["kept", "wish most 1", name])

    def test_great_numbers(self):
        desk = begun()
        self.assertEqual(desk.tell("rounds c " + str(10 ** 59)), "3")
        self.assertEqual(desk.tell(f"coins c : {BIG // 10 ** 11}"), str(3 * (BIG // 10 ** 11)))
        self.assertEqual(read_value(desk.tell("text c")), ONCE)

    def test_short_time(self):
        begun_at = time.time()
        desk = begun("evening e c")
        for at in range(800):
            desk.run([f"ask e 0", f"drop e {at}", "names"])
        self.assertEqual(len(desk.lines()), 4 + 1600)
        for _ in range(1600):
            desk.back()
        self.assertEqual(desk.tell("text e"), "evening " + str(ONCE) + " ; -")
        self.assertLess(time.time() - begun_at, 10)


if __name__ == "__main__":
    unittest.main()
