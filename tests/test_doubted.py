"""truthwell.doubted."""

import unittest

from truthwell.cases import Case
from truthwell.changed import with_rule
from truthwell.changed import with_wish
from truthwell.doubted import doubted_at
from truthwell.doubted import kept
from truthwell.errors import BadCase
from truthwell.errors import BadHearing
from truthwell.errors import BadList
from truthwell.errors import NoHeap
from truthwell.errors import NoQuestion
from truthwell.errors import Unlike
from truthwell.joined import either
from truthwell.questions import Question
from truthwell.stocks import Stock
from truthwell.wishes import Wish

from helpers import Checks
from helpers import Draws
from helpers import ODD
from helpers import is_int
from helpers import made_rule
from plain_logs import log_broken
from plain_logs import log_open
from test_late import FREE
from test_late import ONCE
from test_late import logs
from test_late import made_log


def several(seed):
    """Some cases with one stock, and a log of it."""
    draws = Draws(seed)
    for case, numbers, heard in logs(seed, 3):
        found = [case]
        for _ in range(draws.below(3)):
            rule = made_rule(draws, case.answerers, case.heaps, 1 + draws.below(3), 2)
            found.append(with_rule(case, rule, [draws.below(len(rule)) for _ in range(case.things)]))
        yield found, numbers, heard


class Doubted(Checks, unittest.TestCase):
    def test_kept(self):
        seen = set()
        for cases, numbers, heard in several(531):
            wanted = tuple((at, log_open(case, numbers, heard)) for at, case in enumerate(cases) if not log_broken(case, numbers, heard))
            seen.add((len(cases), len(wanted)))
            self.assertEqual(kept(cases, numbers, heard), wanted)
            self.assertEqual(kept(tuple(cases), tuple(numbers), tuple(heard)), wanted)
        self.assertTrue({(1, 0), (1, 1), (2, 1), (3, 1), (3, 2), (3, 3)} <= seen)

    def test_doubted_at(self):
        seen = set()
        for cases, numbers, heard in several(532):
            wanted = []
            for case in cases:
                cuts = [many for many in range(len(numbers) + 1) if log_broken(case, numbers[:many], heard[:many])]
                wanted.append(cuts[0] if cuts else None)
            seen |= set(wanted)
            self.assertEqual(doubted_at(cases, numbers, heard), tuple(wanted))
        self.assertTrue({None, 2, 3, 4} <= seen)

    def test_either(self):
        """With either of two rules just that is open which is open with one of the two."""
        draws = Draws(533)
        stock = Stock(3, 2, 2, [Question(0, [0, 1, 1]), Question(1, [0, 0, 1])])
        for _ in range(60):
            one, other = made_rule(draws, 2, 2, 1 + draws.below(3), 2), made_rule(draws, 2, 2, 1 + draws.below(3), 2)
            cases = [Case.alike(stock, rule, Wish.each(3)) for rule in (one, other)]
            both = Case.alike(stock, either(one, other), Wish.each(3))
            numbers, heard = made_log(draws, both)
            wanted = sorted({x for at, things in kept(cases, numbers, heard) for x in things})
            self.assertEqual(kept([both], numbers, heard), ((0, tuple(wanted)),) if wanted else ())

    def test_edges(self):
        self.assertEqual([kept([ONCE], [], []), doubted_at([ONCE], [], [])], [((0, (0, 1)),), (None,)])
        self.assertEqual(kept(cases=[ONCE, ONCE], numbers=[1, 1], heard=[1, 1]), ())
        self.assertEqual(doubted_at(cases=[ONCE, FREE, with_wish(ONCE, Wish.left(2))], numbers=[1, 1, 1], heard=[1, 1, 0]), (2, 2, 2))
        # An answer that is heard late breaks the log at its place.
        self.assertEqual(doubted_at([ONCE, FREE], [1, 1, 1], [1, None, 1]), (3, None))

    def test_errors(self):
        other = Case.alike(Stock(2, 1, 2, [Question(0, [0, 1])]), ONCE.rule, Wish.each(2))
        for call in (kept, doubted_at):
            for value in ODD + [ONCE, [ONCE, None], [None, ONCE], (ONCE, other, 0), {0: ONCE}]:
                self.raises(BadCase("cases"), call, value, None, None)
            for cases in ([ONCE, other], [ONCE, FREE, other], (other, ONCE)):
                self.raises(Unlike("stock"), call, cases, None, None)
            for value in ODD:
                if not isinstance(value, (list, tuple)):
                    self.raises(BadList("numbers"), call, [ONCE, FREE], value, None)
                    self.raises(BadHearing("heard"), call, [ONCE, FREE], [0], value)
                if not (is_int(value) and 0 <= value < 2):
                    self.raises(NoQuestion(value), call, [ONCE], [1, value], None)
                    if value is not None:
                        self.raises(NoHeap(value), call, [ONCE, FREE], [1, 1], [None, value])
            self.raises(BadHearing("heard"), call, [ONCE], [0], [])
            self.assertEqual(len(call([ONCE, Case.read(str(FREE))], [], [])), 2)


if __name__ == "__main__":
    unittest.main()
