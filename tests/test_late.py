"""truthwell.late, truthwell.log_walks."""

import time
import unittest

from truthwell.cases import Case
from truthwell.errors import BadCase
from truthwell.errors import BadHearing
from truthwell.errors import BadList
from truthwell.errors import Heard
from truthwell.errors import NoAsked
from truthwell.errors import NoHeap
from truthwell.errors import NoQuestion
from truthwell.errors import NoThing
from truthwell.errors import TooMany
from truthwell.late import can_hear
from truthwell.late import is_broken
from truthwell.late import pasts_left
from truthwell.late import stands_left
from truthwell.questions import Question
from truthwell.ready import after_truths
from truthwell.ready import anything
from truthwell.ready import at_most
from truthwell.ready import never_running
from truthwell.ready import one_in
from truthwell.situations import behind_all
from truthwell.stocks import Stock
from truthwell.wishes import Wish

from helpers import BIG
from helpers import Checks
from helpers import Draws
from helpers import ODD
from helpers import is_int
from helpers import made_cases
from plain import all_hearings
from plain_logs import lawful_fitting
from plain_logs import log_broken
from plain_logs import log_open
from plain_logs import log_stands

STOCK = Stock(2, 1, 2, [Question(0, (0, 1)), Question(0, (0, 0))])
ONCE = Case.alike(STOCK, at_most(1), Wish.each(2))
FREE = Case.alike(STOCK, never_running(), Wish.each(2))


def cases():
    found = [case for case in made_cases(491, 60) if len(case.stock) > 0] + [ONCE, FREE]
    for rule in (one_in(3), after_truths(2), at_most(2)):
        found.append(Case.alike(Stock.splits(3), rule, Wish.each(3)))
    return found


def made_log(draws, case, most=5):
    """A log of at most so many places, most of them not broken."""
    numbers, heard = [], []
    for _ in range(draws.below(most + 1)):
        numbers.append(draws.below(len(case.stock)))
        heard.append(None if draws.below(3) == 0 else draws.below(case.heaps))
    return numbers, heard


def logs(seed, each=4, most=5):
    draws = Draws(seed)
    return [(case,) + made_log(draws, case, most) for case in cases() for _ in range(each)]


class Logs(Checks, unittest.TestCase):
    def test_stands_left(self):
        seen = set()
        for case, numbers, heard in logs(492):
            wanted = log_stands(case, numbers, heard)
            seen.add((len(log_open(case, numbers, heard)) > 0, max(len(stands) for stands in wanted) > 1))
            self.assertEqual(stands_left(case, numbers, heard), wanted)
            self.assertEqual(stands_left(case, tuple(numbers), tuple(heard)), wanted)
            self.assertIs(is_broken(case, numbers, heard), log_broken(case, numbers, heard))
        self.assertEqual(seen, {(True, True), (True, False), (False, False)})

    def test_all_heard(self):
        """If all are heard each open thing has just one stand: that of the situation behind."""
        draws = Draws(493)
        for case in cases():
            numbers = [draws.below(len(case.stock)) for _ in range(draws.below(4))]
            for hearing in all_hearings(case, numbers)[:9]:
                wanted = tuple((stand,) if stand >= 0 else () for stand in behind_all(case, case.firsts, numbers, hearing))
                self.assertEqual(stands_left(case, numbers, hearing), wanted)

    def test_can_hear(self):
        seen = set()
        for case, numbers, heard in logs(494):
            for place in range(len(numbers)):
                if heard[place] is None:
                    wanted = tuple(g for g in range(case.heaps) if not log_broken(case, numbers, heard[:place] + [g] + heard[place + 1:]))
                    seen.add(len(wanted))
                    self.assertEqual(can_hear(case, numbers, heard, place), wanted)
                    self.assertEqual(can_hear(case, tuple(numbers), tuple(heard), place), wanted)
                    self.assertIs(wanted == (), log_broken(case, numbers, heard))
        self.assertTrue({0, 1, 2, 3} <= seen)

    def test_pasts_left(self):
        many = 0
        for case, numbers, heard in logs(495):
            for thing in range(case.things):
                wanted = [past for past, end in lawful_fitting(case, numbers, heard, thing)]
                many += len(wanted)
                self.assertEqual(list(pasts_left(case, numbers, heard, thing)), wanted)
        self.assertGreater(many, 500)
        self.assertEqual(list(pasts_left(case=ONCE, numbers=[], heard=(), thing=1)), [()])

    def test_errors(self):
        for call in (stands_left, is_broken, lambda *args: can_hear(*args, 0), lambda *args: pasts_left(*args, 0)):
            self.odd(lambda value: call(value, None, None), lambda value: BadCase("case"))
            for value in ODD:
                if not isinstance(value, (list, tuple)):
                    self.raises(BadList("numbers"), call, ONCE, value, None)
                    self.raises(BadHearing("heard"), call, ONCE, [0], value)
                if not (is_int(value) and 0 <= value < 2):
                    self.raises(NoQuestion(value), call, ONCE, [0, value, 9], None)
                    if value is not None:
                        self.raises(NoHeap(value), call, ONCE, [0, 0, 0, 0], [None, 1, value, 9])
            for heard in ([], [0], [0, 0, 0], (None,)):
                self.raises(BadHearing("heard"), call, ONCE, [0, 1], heard)

    def test_errors_of_places(self):
        for value in ODD + [2, -1]:
            if not (is_int(value) and 0 <= value < 2):
                self.raises(NoAsked(value), can_hear, ONCE, [0, 0], [None, 0], value)
                self.raises(NoThing(value), pasts_left, ONCE, [0, 0], [None, 0], value)
        self.raises(Heard(1), can_hear, ONCE, [0, 0], [None, 0], 1)
        self.raises(Heard(0), can_hear, FREE, [1, 1], [1, 1], 0)
        self.assertEqual(can_hear(case=FREE, numbers=[1, 1, 1], heard=[1, 1, None], place=2), ())
        self.raises(NoAsked(0), can_hear, ONCE, [], [], 0)

    def test_too_many(self):
        six = Case.alike(STOCK, anything(), Wish.each(2))
        self.assertEqual(len(list(pasts_left(six, [0] * 6, [None] * 6, 0))), 64)
        self.assertEqual(len(list(pasts_left(six, [0] * 16, [None] * 6 + [0] * 10, 1))), 64)
        for heard in ([None] * 7, [0, None] * 7, [None] * 20):
            self.raises(TooMany("unheard", 6), pasts_left, six, [0] * len(heard), heard, 0)
            self.raises(NoThing(2), pasts_left, six, [0] * len(heard), heard, 2)
            self.assertEqual(stands_left(six, [0] * len(heard), heard), ((0,), (0,)))

    def test_short_time(self):
        begun = time.time()
        rows = [Question(0, [(x >> k) & 1 for x in range(16)]) for k in range(4)]
        case = Case.alike(Stock(16, 1, 2, rows), at_most(20), Wish.each(16))
        numbers = [k % 4 for k in range(20)]
        self.assertEqual(stands_left(case, numbers, [None] * 20), (tuple(range(21)),) * 16)
        for place in range(20):
            self.assertEqual(can_hear(case, numbers, [None] * 20, place), (0, 1))
        self.assertLess(time.time() - begun, 10)
        self.assertFalse(is_broken(case, numbers, [BIG % 2] * 20))

    def test_not_changed(self):
        numbers, heard = [0, 1, 0], [None, 0, 1]
        for call in (lambda: stands_left(ONCE, numbers, heard), lambda: can_hear(ONCE, numbers, heard, 0), lambda: list(pasts_left(ONCE, numbers, heard, 0))):
            self.assertEqual(call(), call())
        self.assertEqual([numbers, heard], [[0, 1, 0], [None, 0, 1]])


if __name__ == "__main__":
    unittest.main()
