"""truthwell.evenings, truthwell.evening_states, truthwell.deeds."""

import time
import unittest

from truthwell.cases import Case
from truthwell.errors import BadCase
from truthwell.errors import BadStory
from truthwell.errors import Broken
from truthwell.errors import Heard
from truthwell.errors import NoAsked
from truthwell.errors import NoDeed
from truthwell.errors import NoHeap
from truthwell.errors import NoQuestion
from truthwell.errors import Unheard
from truthwell.errors import WellError
from truthwell.evenings import Evening
from truthwell.questions import Question
from truthwell.ready import always_false
from truthwell.ready import at_most
from truthwell.ready import truthful
from truthwell.situations import behind_all
from truthwell.stocks import Stock
from truthwell.wishes import Wish

from helpers import BIG
from helpers import Checks
from helpers import Draws
from helpers import ODD
from helpers import is_int
from plain_logs import PlainEvening
from plain_logs import log_open
from plain_logs import log_settled
from plain_logs import log_stands
from plain_logs import told_anew
from test_late import FREE
from test_late import ONCE
from test_late import cases

SHOWN = ("story", "asked", "heard", "unheard", "log", "stands", "open_things", "is_settled", "sure")


def shown(evening):
    return {name: getattr(evening, name) for name in SHOWN}


def made_deed(draws, case, many):
    """A deed, perhaps one that is refused."""
    kind = draws.below(10)
    if kind < 4:
        return ("ask", draws.below(len(case.stock) + 1) if draws.below(9) == 0 else draws.below(len(case.stock)))
    asking = draws.below(many + 1)
    if kind < 7:
        return ("hear", asking, draws.below(case.heaps + 1) if draws.below(9) == 0 else draws.below(case.heaps))
    return ("unhear" if kind == 7 else "forget", asking)


def made_evening(draws, case, many, most=7):
    """An evening behind some deeds, so many of which are tried."""
    evening = Evening(case)
    for _ in range(many):
        deed = made_deed(draws, case, len(evening.story))
        if deed[0] == "ask" and len(evening.asked) >= most:
            continue
        try:
            evening.tell(deed)
        except WellError:
            pass
    return evening


class Evenings(Checks, unittest.TestCase):
    def agree(self, evening, deeds):
        """The evening shows what these deeds, all told anew, leave."""
        plain = told_anew(evening.case, deeds)
        log = plain.log()
        self.assertEqual([evening.story, evening.log], [tuple(deeds), log])
        self.assertEqual(evening.asked, tuple((row[0], row[1]) for row in plain.rows))
        self.assertEqual(evening.heard, tuple((row[0], row[2]) for row in plain.rows if row[2] is not None))
        self.assertEqual(evening.unheard, tuple(row[0] for row in plain.rows if row[2] is None))
        self.assertEqual(evening.stands, log_stands(evening.case, *log))
        things = log_open(evening.case, *log)
        settled = log_settled(evening.case, *log)
        self.assertEqual([evening.open_things, evening.is_settled], [things, settled])
        wish = evening.case.wish
        self.assertEqual(evening.sure, None if not settled else things if wish.classes is None else wish.classes[things[0]])
        self.assertTrue(all(type(getattr(evening, name)) is tuple for name in SHOWN[:-2]))
        self.assertEqual([len(evening), list(evening)], [len(deeds), list(deeds)])

    def test_deeds(self):
        """Deeds, undone and done anew, in all orders, against a plain evening that is told anew each time."""
        draws = Draws(501)
        seen = {}
        for case in cases():
            evening, deeds, undone = Evening(case), [], []
            self.agree(evening, deeds)
            for _ in range(30):
                step = draws.below(10)
                if step < 2:
                    self.step_back(evening, deeds, undone, step)
                    continue
                deed = made_deed(draws, case, len(deeds))
                if deed[0] == "ask" and len(evening.asked) == 6:
                    continue
                plain = told_anew(case, deeds)
                before = shown(evening)
                if plain.refused(deed):
                    seen[deed[0], "refused"] = True
                    with self.assertRaises(WellError):
                        evening.tell(deed if draws.below(2) else list(deed))
                    self.assertEqual(shown(evening), before)
                else:
                    seen[deed[0]] = True
                    asking = evening.tell(deed if draws.below(2) else list(deed))
                    self.assertEqual(asking, sum(deed[0] == "ask" for deed in deeds) if deed[0] == "ask" else None)
                    deeds.append(deed)
                    undone.clear()
                    self.agree(evening, deeds)
        self.assertEqual(len(seen), 8)

    def step_back(self, evening, deeds, undone, step):
        """Undoes, or does anew."""
        before = shown(evening)
        here, there, call = (deeds, undone, evening.undo) if step == 0 else (undone, deeds, evening.redo)
        if here:
            there.append(here.pop())
            self.assertIsNone(call())
            self.agree(evening, deeds)
        else:
            self.raises(NoDeed(), call)
            self.assertEqual(shown(evening), before)

    def test_methods(self):
        evening = Evening(case=ONCE)
        self.assertEqual([evening.ask(number=0), evening.ask(1), evening.ask(0)], [0, 1, 2])
        self.assertEqual([evening.hear(asking=1, told=0), evening.hear(0, 0), evening.unhear(asking=0), evening.forget(asking=1), evening.ask(1)], [None] * 4 + [3])
        self.assertEqual(evening.story, (("ask", 0), ("ask", 1), ("ask", 0), ("hear", 1, 0), ("hear", 0, 0), ("unhear", 0), ("forget", 1), ("ask", 1)))
        self.assertEqual([evening.asked, evening.heard, evening.unheard, evening.log], [((0, 0), (2, 0), (3, 1)), (), (0, 2, 3), ((0, 0, 1), (None, None, None))])
        self.assertEqual([evening.undo(), evening.redo(), evening.undo(), evening.ask(0)], [None, None, None, 3])
        self.assertEqual(evening.tell(deed=["hear", 3, 1]), None)

    def test_numbers_are_free_again(self):
        """What is undone is as if it had never been done; what is forgotten keeps its number."""
        evening = Evening(ONCE)
        evening.ask(0)
        evening.undo()
        self.assertEqual([evening.ask(1), evening.asked], [0, ((0, 1),)])
        evening.forget(0)
        self.assertEqual([evening.ask(0), evening.asked], [1, ((1, 0),)])
        for call in (evening.unhear, evening.forget, lambda asking: evening.hear(asking, 0)):
            self.raises(NoAsked(0), call, 0)

    def test_sure(self):
        one = Case.alike(Stock.singles(1), at_most(1), Wish.each(1))
        self.assertEqual([Evening(one).is_settled, Evening(one).sure], [True, 0])
        left = Case.alike(Stock.singles(3), truthful(), Wish.left(2))
        evening = Evening(left)
        self.assertEqual([evening.is_settled, evening.sure], [False, None])
        evening.ask(1)
        evening.hear(0, 0)
        self.assertEqual([evening.is_settled, evening.sure, evening.open_things], [True, (0, 2), (0, 2)])
        classes = Case.alike(Stock.singles(3), truthful(), Wish.of([5, 7, 5]))
        evening = Evening(classes)
        evening.ask(1)
        evening.hear(0, 1)
        self.assertEqual([evening.sure, evening.open_things], [1, (1,)])
        evening.unhear(0)
        evening.hear(0, 0)
        self.assertEqual([evening.sure, evening.open_things, evening.stands], [0, (0, 2), ((0,), (), (0,))])

    def test_facts(self):
        """The order in which answers are heard means nothing; asking leaves what is open; hearing opens nothing."""
        draws = Draws(502)
        for case in cases():
            evening = made_evening(draws, case, 14)
            numbers, heard = evening.log
            other = Evening(case)
            for number in numbers:
                other.ask(number)
            places = [place for place, told in enumerate(heard) if told is not None]
            while places:
                place = places.pop(draws.below(len(places)))
                before = other.open_things
                other.hear(place, heard[place])
                self.assertTrue(set(other.open_things) <= set(before))
            self.assertEqual([other.log, other.stands], [evening.log, evening.stands])
            before = evening.open_things
            evening.ask(draws.below(len(case.stock)))
            self.assertEqual(evening.open_things, before)
            # For an unheard asking some answer can always be heard.
            for asking in evening.unheard:
                fine = []
                for told in range(case.heaps):
                    twin = evening.twin()
                    try:
                        twin.hear(asking, told)
                        fine.append(told)
                    except Broken:
                        pass
                self.assertTrue(fine)

    def test_situation(self):
        draws = Draws(503)
        for case in cases():
            evening = Evening(case)
            for _ in range(3):
                evening.ask(draws.below(len(case.stock)))
            for asking in (2, 0, 1):
                for told in range(case.heaps):
                    try:
                        evening.hear(asking, told)
                        break
                    except Broken:
                        pass
            wanted = behind_all(case, case.firsts, *evening.log)
            self.assertEqual(evening.stands, tuple((stand,) if stand >= 0 else () for stand in wanted))

    def test_forgetting(self):
        """Forgetting can open things, or bar them, so that it is refused."""
        evening = Evening(FREE)
        for told in (1, 0, 1):
            evening.hear(evening.ask(1), told)
        self.assertEqual(evening.open_things, (0, 1))
        self.raises(Broken(1), evening.forget, 1)
        evening.forget(0)
        self.assertEqual(evening.log, ((1, 1), (0, 1)))
        other = Evening(ONCE)
        for told in (1, 1):
            other.hear(other.ask(0), told)
        self.assertEqual(other.open_things, (1,))
        other.forget(0)
        self.assertEqual(other.open_things, (0, 1))


class Twins(Checks, unittest.TestCase):
    def test_twin(self):
        draws = Draws(504)
        for case in cases()[::2]:
            evening = made_evening(draws, case, 10)
            for _ in range(draws.below(3)):
                if len(evening) > 0:
                    evening.undo()
            twin = evening.twin()
            before = shown(evening)
            self.assertEqual([shown(twin), twin == evening, twin is evening], [before, True, False])
            twin.ask(0)
            self.assertEqual([shown(evening), twin == evening], [before, False])
            other = evening.twin()
            evening.ask(0)
            self.assertEqual(shown(other), before)

    def test_twin_does_anew(self):
        evening = Evening(ONCE)
        evening.ask(0)
        evening.ask(1)
        evening.undo()
        evening.undo()
        twin = evening.twin()
        twin.redo()
        twin.redo()
        self.assertEqual([twin.asked, evening.asked], [((0, 0), (1, 1)), ()])
        evening.redo()
        self.assertEqual(evening.asked, ((0, 0),))

    def test_tried(self):
        evening = Evening(ONCE)
        evening.ask(0)
        evening.ask(0)
        evening.undo()
        before = shown(evening)
        seen = []

        def work(told):
            seen.append(told is evening)
            told.redo()
            told.hear(0, 0)
            told.hear(1, 0)
            told.undo()
            told.undo()
            told.undo()
            told.undo()
            told.ask(1)
            return told.asked

        self.assertEqual([evening.tried(work), seen, shown(evening)], [((0, 1),), [True], before])
        evening.redo()
        self.assertEqual(evening.asked, ((0, 0), (1, 0)))
        before = shown(evening)
        for error in (KeyError("x"), Broken(1), ZeroDivisionError()):
            def fails(told):
                told.hear(1, 0)
                told.forget(0)
                raise error

            with self.assertRaises(type(error)) as caught:
                evening.tried(work=fails)
            self.assertIs(caught.exception, error)
            self.assertEqual(shown(evening), before)
        evening.undo()
        self.assertEqual(evening.tried(lambda told: told), evening)
        self.assertEqual(evening.tried(lambda told: told.tried(lambda more: (more.ask(1), len(more))) + (len(told),)), (1, 2, 1))
        evening.redo()
        self.assertEqual(shown(evening), before)

    def test_equal(self):
        one, two, other = Evening(ONCE), Evening(Case.read(str(ONCE))), Evening(FREE)
        self.assertTrue(one == two and not one != two and one != other and not one == other)
        one.ask(0)
        self.assertTrue(one != two)
        two.ask(1)
        self.assertTrue(one != two)
        two.undo()
        two.ask(0)
        self.assertTrue(one == two)
        for value in ODD + [one.story, ONCE]:
            self.assertTrue(one != value and not one == value)

    def test_iteration(self):
        evening = Evening(ONCE)
        evening.ask(1)
        evening.hear(0, 0)
        self.assertEqual([len(evening), [deed for deed in evening], list(evening), len(Evening(ONCE))], [2, [("ask", 1), ("hear", 0, 0)], list(evening.story), 0])

    def test_case_stays(self):
        evening = Evening(ONCE)
        self.assertIs(evening.case, ONCE)
        text = str(ONCE)
        evening.ask(0)
        self.assertEqual(str(evening.case), text)


class Refused(Checks, unittest.TestCase):
    def setUp(self):
        self.evening = Evening(ONCE)
        for _ in range(4):
            self.evening.ask(0)
        self.evening.hear(1, 0)
        self.evening.forget(2)
        self.evening.undo()
        self.evening.redo()

    def refuses(self, error, call, *args):
        before = shown(self.evening)
        self.raises(error, call, *args)
        self.assertEqual(shown(self.evening), before)

    def test_case(self):
        self.odd(Evening, lambda value: BadCase("case"))

    def test_numbers(self):
        for value in ODD + [2, -1]:
            if not (is_int(value) and 0 <= value < 2):
                self.refuses(NoQuestion(value), self.evening.ask, value)

    def test_askings(self):
        for value in ODD + [2, 4, -1]:
            if not (is_int(value) and value in (0, 1, 3)):
                self.refuses(NoAsked(value), self.evening.hear, value, None)
                self.refuses(NoAsked(value), self.evening.unhear, value)
                self.refuses(NoAsked(value), self.evening.forget, value)
        for value in ODD + [2, -1]:
            if not (is_int(value) and 0 <= value < 2):
                self.refuses(NoHeap(value), self.evening.hear, 0, value)
                self.refuses(NoHeap(value), self.evening.hear, 1, value)

    def test_heard(self):
        for told in (0, 1):
            self.refuses(Heard(1), self.evening.hear, 1, told)
        self.refuses(Unheard(0), self.evening.unhear, 0)
        self.refuses(Unheard(3), self.evening.unhear, 3)

    def test_broken(self):
        # Thing 1 has lied at 1; it is out by 3, and then thing 0 has lied once more than it may.
        self.evening.hear(0, 1)
        self.refuses(Heard(0), self.evening.hear, 0, 1)
        self.evening.hear(3, 0)
        self.assertEqual(self.evening.open_things, (0,))
        self.evening.ask(0)
        self.refuses(Broken(4), self.evening.hear, 4, 1)
        false = Evening(Case.alike(Stock(2, 1, 2, [Question(0, [0, 1]), Question(0, [0, 0])]), always_false(), Wish.each(2)))
        false.ask(1)
        with self.assertRaises(Broken):
            false.hear(0, 0)
        self.assertEqual([false.heard, len(false)], [(), 1])

    def test_deeds(self):
        words = [("ask",), ("ask", 0, 0), ("ask", -1), ("ask", True), ("ask", None), ("ask", "0"), ("hear", 0), ("hear", 0, 0, 0), ("hear", 0, None), ("hear", 0, -1),
                 ("unhear",), ("unhear", 0, 0), ("forget", 1.0), ("forget", [0]), ("Ask", 0), ("undo",), ("redo",), ("drop", 0), (0, "ask"), "ask 0", ["ask", [0]], ("ask", BIG, 0),
                 ([], 0), ({}, 0), (("ask",), 0), "ask", ("", 0)]
        for value in ODD + words:
            self.refuses(BadStory("deed"), self.evening.tell, value)
        for deed, error in ((("ask", 2), NoQuestion(2)), (["ask", BIG], NoQuestion(BIG)), (("hear", 2, 9), NoAsked(2)), (("hear", BIG, 0), NoAsked(BIG)), (("hear", 0, 2), NoHeap(2)),
                            (("hear", 1, 0), Heard(1)), (("unhear", 2), NoAsked(2)), (["unhear", 0], Unheard(0)), (("forget", 2), NoAsked(2))):
            self.refuses(error, self.evening.tell, deed)

    def test_nothing_to_take_back(self):
        evening = Evening(ONCE)
        self.raises(NoDeed(), evening.undo)
        self.raises(NoDeed(), evening.redo)
        evening.ask(0)
        self.raises(NoDeed(), evening.redo)
        evening.undo()
        self.raises(NoDeed(), evening.undo)
        # What is refused is no deed: what was taken back can be done anew.
        self.raises(NoQuestion(9), evening.ask, 9)
        self.raises(BadStory("deed"), evening.tell, None)
        evening.redo()
        self.assertEqual(evening.asked, ((0, 0),))
        evening.undo()
        evening.ask(1)
        self.raises(NoDeed(), evening.redo)

    def test_short_time(self):
        begun = time.time()
        rows = [Question(0, [(x >> k) & 1 for x in range(16)]) for k in range(4)]
        evening = Evening(Case.alike(Stock(16, 1, 2, rows), at_most(20), Wish.each(16)))
        for place in range(20):
            evening.ask(place % 4)
        for place in range(20):
            evening.hear(19 - place, 0)
        for _ in range(40):
            evening.undo()
        for _ in range(40):
            evening.redo()
        self.assertEqual(len(evening.heard), 20)
        many = Evening(ONCE)
        for asking in range(2000):
            many.forget(many.ask(0))
        self.assertEqual([len(many), many.asked], [4000, ()])
        self.assertLess(time.time() - begun, 10)


class Plain(unittest.TestCase):
    def test_plain_evening(self):
        """The plain evening refuses by its own words."""
        plain = PlainEvening(ONCE)
        self.assertEqual([plain.refused(("ask", 0)), plain.refused(("ask", 2)), plain.refused(("hear", 0, 0)), plain.refused(("hear", 0, 0)), plain.refused(("unhear", 1))],
                         [False, True, False, True, True])


if __name__ == "__main__":
    unittest.main()
