"""truthwell.told."""

import time
import unittest

from truthwell.cases import Case
from truthwell.depths import depth_of
from truthwell.depths import worths
from truthwell.errors import BadEvening
from truthwell.errors import Broken
from truthwell.errors import Late
from truthwell.errors import Never
from truthwell.errors import NoAsked
from truthwell.errors import Settled
from truthwell.errors import TooMany
from truthwell.errors import Unheard
from truthwell.evenings import Evening
from truthwell.questions import Question
from truthwell.ready import never_running
from truthwell.ready import truthful
from truthwell.rules import Rule
from truthwell.stocks import Stock
from truthwell.told import lie_counts
from truthwell.told import lies
from truthwell.told import next_question
from truthwell.told import questions_left
from truthwell.wishes import Wish

from helpers import Checks
from helpers import Draws
from helpers import ODD
from helpers import is_int
from plain_logs import lawful_fitting
from test_depths import chain
from test_depths import ready_cases
from test_evenings import made_evening
from test_late import ONCE
from test_late import cases


def evenings(seed, each=3):
    draws = Draws(seed)
    return [made_evening(draws, case, 12, 5) for case in cases() for _ in range(each)]


def lies_of(past):
    return sum(true != told for who, true, told in past)


class Lies(Checks, unittest.TestCase):
    def test_lies(self):
        seen = set()
        for evening in evenings(511):
            case = evening.case
            for asking, told in evening.heard:
                number = dict(evening.asked)[asking]
                found = {case.stock[number].heaps[x] != told for x in evening.open_things}
                wanted = "some" if len(found) == 2 else "all" if found == {True} else "none"
                seen.add(wanted)
                self.assertEqual(lies(evening, asking), wanted)
        self.assertEqual(seen, {"all", "none", "some"})

    def test_lie_counts(self):
        seen = set()
        for evening in evenings(512):
            wanted = []
            for x in range(evening.case.things):
                counts = [lies_of(past) for past, end in lawful_fitting(evening.case, *evening.log, x)]
                wanted.append((min(counts), max(counts)) if counts else None)
            self.assertEqual(lie_counts(evening), tuple(wanted))
            seen |= set(wanted)
        self.assertTrue({None, (0, 0), (0, 1), (1, 1), (0, 2), (1, 2)} <= seen)
        self.assertEqual(lie_counts(Evening(ONCE)), ((0, 0), (0, 0)))

    def test_errors(self):
        for call in (lambda value: lies(value, None), lie_counts, questions_left, next_question):
            for value in ODD + [ONCE, (), Evening]:
                self.raises(BadEvening("evening"), call, value)
        evening = Evening(ONCE)
        for _ in range(3):
            evening.ask(0)
        evening.forget(1)
        evening.hear(2, 0)
        for value in ODD + [1, 3, -1]:
            if not (is_int(value) and value in (0, 2)):
                self.raises(NoAsked(value), lies, evening, value)
        self.raises(Unheard(0), lies, evening, 0)
        self.assertEqual(lies(evening=evening, asking=2), "some")


class Plans(Checks, unittest.TestCase):
    def test_at_the_situation(self):
        """With nothing unheard the rest of a plan is told from the situation."""
        seen = set()
        for evening in evenings(513, 6):
            if evening.unheard:
                seen.add("late")
                self.raises(Late(evening.unheard[0]), questions_left, evening)
                self.raises(Late(evening.unheard[0]), next_question, evening)
                continue
            situation = tuple(stands[0] if stands else -1 for stands in evening.stands)
            depth = depth_of(evening.case, situation)
            self.assertEqual(questions_left(evening), depth)
            if evening.is_settled:
                seen.add("settled")
                self.assertEqual(depth, 0)
                self.raises(Settled(), next_question, evening)
            elif depth is None:
                seen.add("never")
                self.raises(Never(), next_question, evening)
            else:
                seen.add("asked")
                self.assertEqual(next_question(evening), list(worths(evening.case, situation)).index(depth))
        self.assertEqual(seen, {"late", "settled", "never", "asked"})

    def test_asked_on(self):
        """Whoever asks just what comes next is settled after at most the least depth, whatever is heard."""
        draws = Draws(514)
        many = 0
        for case in ready_cases():
            depth = depth_of(case)
            if depth is None:
                continue
            for _ in range(4):
                evening = Evening(case)
                asked = 0
                while not evening.is_settled:
                    left = questions_left(evening)
                    asking = evening.ask(next_question(evening))
                    told = draws.below(case.heaps)
                    try:
                        evening.hear(asking, told)
                    except Broken:
                        evening.hear(asking, 1 - told)
                    asked += 1
                    self.assertLess(questions_left(evening), left)
                many += asked
                self.assertLessEqual(asked, depth)
        self.assertGreater(many, 100)

    def test_late_comes_first(self):
        evening = Evening(Case.alike(Stock.singles(2), truthful(), Wish.left(2)))
        self.assertEqual(questions_left(evening), 0)
        self.raises(Settled(), next_question, evening)
        evening.ask(0)
        evening.ask(1)
        evening.hear(0, 1)
        for call in (questions_left, next_question):
            self.raises(Late(1), call, evening)
        evening.unhear(0)
        for call in (questions_left, next_question):
            self.raises(Late(0), call, evening)

    def test_too_many(self):
        """What comes about from the first situation alone does not count."""
        begun = time.time()
        more = Evening(chain([0, 0, 63, 0]))
        for call in (questions_left, next_question):
            self.raises(TooMany("situations", 4096), call, more)
        more.hear(more.ask(0), 1)
        self.assertEqual([more.stands, questions_left(more), next_question(more)], [((0,), (0,)), 125, 0])
        full = Evening(chain([0, 0, 0, 0]))
        self.assertEqual([questions_left(full), next_question(full)], [126, 0])
        self.assertLess(time.time() - begun, 10)

    def test_never_comes_last(self):
        """Too many situations are told ahead of never."""
        rows = [[begin + (s + 1) % size] * 4 for begin, size in ((0, 16), (16, 17), (33, 19)) for s in range(size)]
        case = Case(Stock(3, 1, 2, [Question(0, [0, 0, 0])]), Rule(1, 2, rows), [0, 16, 33], Wish.each(3))
        for call in (questions_left, next_question):
            self.raises(TooMany("situations", 4096), call, Evening(case))
        never = Evening(Case.alike(Stock(2, 1, 2, []), never_running(), Wish.each(2)))
        self.assertIsNone(questions_left(never))
        self.raises(Never(), next_question, never)


if __name__ == "__main__":
    unittest.main()
