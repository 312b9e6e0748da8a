"""truthwell.whom."""

import time
import unittest

from truthwell.answerers import cast
from truthwell.answerers import through
from truthwell.books import find_book
from truthwell.cases import Case
from truthwell.depths import depth_of
from truthwell.depths import find_plan
from truthwell.errors import BadCase
from truthwell.errors import BadList
from truthwell.errors import BadNumber
from truthwell.errors import NoAnswerer
from truthwell.errors import TooMany
from truthwell.joined import each_own
from truthwell.papers import Denial
from truthwell.papers import Paper
from truthwell.questions import Question
from truthwell.ready import after_truths
from truthwell.ready import always_false
from truthwell.ready import at_most
from truthwell.ready import never_running
from truthwell.ready import truthful
from truthwell.rings import find_ring
from truthwell.rules import Rule
from truthwell.stocks import Stock
from truthwell.whom import Crews
from truthwell.whom import NoCrew
from truthwell.whom import asked_only
from truthwell.whom import crews
from truthwell.wishes import Wish

from helpers import BIG
from helpers import Checks
from helpers import Draws
from helpers import ODD
from helpers import is_int
from helpers import made_cases
from plain_sets import crew_case
from plain_sets import is_enough
from plain_sets import least_and_greatest
from plain_sets import sets_told

LIARS = cast(Stock(4, 2, 2, [through(Question(0, [0, 0, 1, 1]), [0, 2]), Question(1, [0, 0, 1, 1])]), [truthful(), always_false()],
             [(1, 0), (0, 1), (1, 0), (0, 1)], Wish.of([0, 0, 1, 1]))


def own_cases(seed, many):
    """Cases of several answerers, each of whom keeps a rule of its own, or a made-up one."""
    draws = Draws(seed)
    rules = [truthful(), at_most(1), at_most(2), never_running(), after_truths(1), after_truths(2)]
    found = []
    for _ in range(many):
        answerers = 1 + draws.below(4)
        things = 2 + draws.below(2)
        rule = each_own([draws.pick(rules) for _ in range(answerers)])
        questions = []
        for _ in range(1 + draws.below(5)):
            question = Question(draws.below(answerers), [draws.below(2) for _ in range(things)])
            if question not in questions:
                questions.append(question)
        found.append(Case.alike(Stock(things, answerers, 2, questions), rule, Wish.each(things) if draws.below(4) else Wish.left(1)))
    return found


def cases():
    return own_cases(451, 60) + made_cases(452, 40, 3, 3, 2, 3, 4) + [LIARS]


def long_chain(last):
    """Two answerers; that one who is asked questions which part things may lie 62 times: 4,096 situations, or more."""
    rows = [list(row) + [stand] * 4 for stand, row in enumerate(at_most(62).rows)] + [last + [63] * 4]
    return Case(Stock(2, 2, 2, [Question(0, [0, 1]), Question(1, [0, 0])]), Rule(2, 2, rows), [63, 63], Wish.each(2))


class AskedOnly(Checks, unittest.TestCase):
    def test_questions(self):
        for case in cases():
            for crew in sets_told(range(case.answerers)):
                for told in (crew, list(crew)[::-1], crew + crew):
                    self.assertEqual(asked_only(case, told), crew_case(case, crew))
        self.assertEqual(str(asked_only(case=LIARS, answerers=[1]).stock), "4 2 2 | 1 0011")

    def test_errors(self):
        self.odd(lambda value: asked_only(value, None), lambda value: BadCase("case"))
        for value in ODD:
            if not isinstance(value, (list, tuple)):
                self.raises(BadList("answerers"), asked_only, LIARS, value)
            if not (is_int(value) and 0 <= value < 2):
                self.raises(NoAnswerer(value), asked_only, LIARS, [0, 1, value, 7])


class AllCrews(Checks, unittest.TestCase):
    def test_least_and_greatest(self):
        seen = set()
        for case in cases():
            sets = sets_told(range(case.answerers))
            for most in (None, 0, 1, 2, 3, 12):
                least, greatest = least_and_greatest(sets, {crew: is_enough(crew_case(case, crew), most) for crew in sets})
                paper = crews(case) if most is None else crews(case, most)
                self.assertIs(type(paper), Crews if least else NoCrew)
                if least:
                    self.assertEqual([crew for crew, plan in paper.enough], least)
                    for crew, plan in paper.enough:
                        self.assertEqual(plan, find_plan(crew_case(case, crew)))
                self.assertEqual([crew for crew, shown in paper.short], greatest)
                for crew, shown in paper.short:
                    self.assertEqual(shown, find_ring(crew_case(case, crew)) if most is None else find_book(crew_case(case, crew), most))
                seen.add((len(least), len(greatest), most is None))
        self.assertTrue({(0, 1, True), (1, 0, True), (1, 1, True), (2, 1, True), (1, 2, True), (0, 1, False), (1, 2, False), (2, 1, False)} <= seen)

    def test_edges(self):
        done = Case.alike(Stock(2, 4, 2, []), truthful(4), Wish.left(2))
        plan = find_plan(done)
        for most in (None, 0, 12):
            self.assertEqual(crews(done, most), Crews([((), plan)], []))
        empty = Case.alike(Stock(2, 4, 2, []), truthful(4), Wish.each(2))
        self.assertEqual(crews(case=empty, most=None), NoCrew([((0, 1, 2, 3), find_ring(empty))]))
        self.assertEqual(crews(empty, 3), NoCrew([((0, 1, 2, 3), find_book(empty, 3))]))

    def test_errors(self):
        self.odd(lambda value: crews(value, False), lambda value: BadCase("case"))
        full = long_chain([0, 0, 0, 0])
        for value in ODD + [-1, 13]:
            if value is not None and not (is_int(value) and 0 <= value <= 12):
                self.raises(BadNumber("most"), crews, long_chain([0, 0, 62, 0]), value)
        begun = time.time()
        self.assertEqual(depth_of(full), 126)
        found = crews(full)
        self.assertEqual([[crew for crew, plan in found.enough], [crew for crew, ring in found.short]], [[(0,)], [(1,)]])
        self.assertLess(time.time() - begun, 10)

    def test_too_many(self):
        """The errors come set by set: of plans first, then of what is short."""
        more = long_chain([0, 0, 63, 0])
        for most in (None, 0, 12):
            self.raises(TooMany("situations", 4096), crews, more, most)
        # Answerer 1 tells all; the crew of 0 comes ahead.
        told = Case(Stock(2, 2, 2, [Question(0, [0, 1]), Question(1, [0, 1])]), more.rule, [63, 63], Wish.each(2))
        self.raises(TooMany("situations", 4096), crews, told)
        swapped = Rule(2, 2, [row[4:] + row[:4] for row in more.rule.rows])
        case = Case(Stock(2, 2, 2, [Question(0, [0, 0]), Question(1, [0, 1])]), swapped, [63, 63], Wish.each(2))
        self.raises(TooMany("situations", 4096), crews, case)
        # With nobody to ask it is settled: the others are left out.
        self.assertEqual(len(crews(Case(case.stock, case.rule, case.firsts, Wish.left(2))).enough), 1)

    def test_too_many_entries(self):
        """An idle question moves two things round rings of 17 and 19 stands: a ring of 323 entries; Books have one in each layer."""
        rings = Rule(2, 2, [[begin + (s + 1) % size] * 4 + [begin + s, None, None, begin + s] for begin, size in ((0, 17), (17, 19)) for s in range(size)])
        case = Case(Stock(2, 2, 2, [Question(0, [0, 0]), Question(1, [0, 1])]), rings, [0, 17], Wish.each(2))
        self.raises(TooMany("layer", 300), find_ring, crew_case(case, (0,)))
        self.raises(TooMany("layer", 300), crews, case)
        self.assertEqual([[crew for crew, paper in part] for part in crews(case, 12).parts], [[(1,)], [(0,)]])


class Papers(unittest.TestCase):
    def test_papers(self):
        paper = Crews(enough=[[[0], None]], short=[])
        self.assertEqual([paper.word, paper.enough, paper.short, paper.parts, bool(paper)], ["crews", (((0,), None),), (), ((((0,), None),), ()), True])
        self.assertTrue(isinstance(paper, Paper) and not isinstance(paper, Denial))
        denial = NoCrew(short=[[[0], 1]])
        self.assertEqual([denial.word, denial.short, denial.parts, bool(denial)], ["nocrew", (((0,), 1),), ((((0,), 1),),), False])
        self.assertTrue(isinstance(denial, Denial) and denial == NoCrew(denial.short) and denial != NoCrew([]))


if __name__ == "__main__":
    unittest.main()
