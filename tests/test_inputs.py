"""What is passed stays as it was, and is not kept; a call that raises changes nothing either."""

import copy
import unittest

from truthwell.ahead import Enough
from truthwell.ahead import Layers
from truthwell.ahead import ShadowRing
from truthwell.ahead import Shared
from truthwell.ahead import ahead
from truthwell.ahead import fewest_ahead
from truthwell.bars import LeastBars
from truthwell.bars import NoBars
from truthwell.bars import least_bars
from truthwell.books import Book
from truthwell.books import find_book
from truthwell.books import hearing_by
from truthwell.broken import Breaks
from truthwell.broken import Lawful
from truthwell.broken import fewest_that_show
from truthwell.cases import Case
from truthwell.check_ahead import shows_enough
from truthwell.check_ahead import shows_layers
from truthwell.check_ahead import shows_shadow_ring
from truthwell.check_ahead import shows_shared
from truthwell.check_books import shows_book
from truthwell.check_plans import shows_plan
from truthwell.depths import depth_of
from truthwell.depths import find_plan
from truthwell.depths import worths
from truthwell.errors import WellError
from truthwell.fading import Fading
from truthwell.fading import Grows
from truthwell.freer_situations import is_no_freer
from truthwell.freer_situations import least_free
from truthwell.fronts import CoinFront
from truthwell.fronts import RoundFront
from truthwell.fronts import coin_front
from truthwell.gaps import Gap
from truthwell.late import can_hear
from truthwell.late import stands_left
from truthwell.mending import class_told
from truthwell.mending import lies_in
from truthwell.mending import lies_told
from truthwell.mending import mended
from truthwell.pair_plans import Untold
from truthwell.plans import Plan
from truthwell.plans import stopped
from truthwell.plans import ways
from truthwell.prices import PriceBook
from truthwell.prices import PricePlan
from truthwell.prices import in_coins
from truthwell.prices import least_coins
from truthwell.ready import at_most
from truthwell.rings import Ring
from truthwell.round_books import RoundBook
from truthwell.round_books import RoundRing
from truthwell.rounds import RoundPlan
from truthwell.rounds import turned_into
from truthwell.shadows import is_bare
from truthwell.shadows import is_within_shadow
from truthwell.shadows import shadow_after
from truthwell.shadows import shadow_behind
from truthwell.spelled import parted_at
from truthwell.spelled import spellings
from truthwell.stocks import Stock
from truthwell.stories import replay
from truthwell.untold import Tellings
from truthwell.weights import heaviest
from truthwell.weights import weight_of
from truthwell.weights import well_parted
from truthwell.whole import told_whole
from truthwell.whom import Crews
from truthwell.whom import NoCrew
from truthwell.whom import asked_only
from truthwell.wishes import Wish

from bends import listed

PAIR = Case.alike(Stock.splits(2), at_most(1), Wish.each(2))

CALLS = [
    (is_no_freer, [0, 1], [1, 0]), (is_no_freer, [0, 1], [9, 0]), (least_free, [[1, 0], [0, 0]]), (least_free, [[1, 0], None]),
    (depth_of, [0, 1]), (depth_of, [0, 9]), (worths, [1, 1]), (heaviest, [0, 1], 1, 3), (heaviest, [0, 1], 7, 3), (weight_of, [0, 1], 99),
    (weight_of, [1, 1], 3), (well_parted, [0, 0], 3), (shadow_after, [[[0, 0], [1, 0]]], 1), (shadow_after, [[[0, 0], [0, 0]]], 1),
    (shadow_behind, [1, 0, 1]), (shadow_behind, [1, 7]), (ahead, [1, 1]), (ahead, [1, 1, 1]), (ahead, [1, None]), (mended, [1, 1], [0, 1]),
    (class_told, [1, 1], [0, 0]), (lies_in, [1, 1], [0, 0], 0), (lies_in, [1, 1], [0, 0], 5), (lies_told, [1, 1, 0], [0, 1, 0]), (lies_told, [0, 0], [1, 1]),
    (spellings, [1, 0]), (parted_at, [1, 0, 1]), (turned_into, [[0, 0], [1, 0]], 1), (turned_into, [[0, 0], [0, 0]], 1),
    (least_coins, [1, 2]), (least_coins, [1, 0]), (in_coins, [2, 1], 4), (in_coins, [2, 1], 2, 1), (coin_front, [2, 1]), (coin_front, [1]),
    (asked_only, [0, 0]), (asked_only, [1]), (least_bars, None, [[0, 0, 0, 0], [0, 0, 1, 0]]), (least_bars, None, [[0, 0, 0, 0], [9, 0, 0, 0]]),
    (stands_left, [1, 0], [None, 1]), (stands_left, [1, 0], [None]), (can_hear, [1, 1], [None, 0], 0), (can_hear, [1, 1], [None, 0], 1),
    (fewest_that_show, [0, 0], [1, 1]), (fewest_that_show, [0, 0], [1, 2]), (replay, [["ask", 0], ["hear", 0, 1]]), (replay, [["ask", 0], ["hear", 0, 2]]),
    (told_whole, [3, 1]), (told_whole, [3, 1, 1]),
]


class Inputs(unittest.TestCase):
    def test_lists_stay(self):
        for function, *args in CALLS:
            before = copy.deepcopy(args)
            text = str(PAIR)
            try:
                first = function(PAIR, *args)
            except WellError as error:
                first = (type(error), vars(error))
            self.assertEqual(args, before, function)
            self.assertEqual(str(PAIR), text)
            try:
                again = function(PAIR, *[tuple(arg) if isinstance(arg, list) else arg for arg in args])
            except WellError as error:
                again = (type(error), vars(error))
            self.assertEqual(first, again, function)

    def test_shadows_stay(self):
        one, other = [[[0, 0]]], [[[0, 0], [1, 1]]]
        self.assertEqual([is_bare(one), is_within_shadow(one, other), is_within_shadow(other, one)], [False, True, False])
        self.assertEqual([one, other], [[[[0, 0]]], [[[0, 0], [1, 1]]]])

    def test_papers_keep_copies(self):
        for kind, parts in ((Fading, 1), (Grows, 3), (Plan, 1), (Untold, 2), (Book, 1), (Ring, 1), (Gap, 3), (Enough, 2), (Shared, 2), (Layers, 1), (ShadowRing, 1), (RoundPlan, 1),
                            (RoundBook, 1), (RoundRing, 1), (PricePlan, 1), (PriceBook, 1), (RoundFront, 3), (CoinFront, 3), (Crews, 2), (NoCrew, 1),
                            (Tellings, 2), (LeastBars, 2), (NoBars, 1), (Breaks, 2), (Lawful, 1)):
            given = [[[0, [1]], 2] for _ in range(parts)]
            paper = kind(*given)
            for part in given:
                part[0][1].append(9)
                part.append(8)
            self.assertEqual(paper.parts, (((0, (1,)), 2),) * parts)
            self.assertEqual(kind(*paper.parts), paper)
            self.assertEqual(paper == kind(*([0] * parts)), False)

    def test_papers_of_lists(self):
        """Lists and tuples may stand for one another, also within papers."""
        plan, book = find_plan(PAIR), find_book(PAIR, 2)
        self.assertTrue(shows_plan(PAIR, Plan(listed(plan.table))) and shows_book(PAIR, Book(listed(book.layers)), 2))
        self.assertEqual(list(ways(PAIR, Plan(listed(plan.table)))), list(ways(PAIR, plan)))
        self.assertEqual(stopped(PAIR, Plan(listed(plan.table)), 1), stopped(PAIR, plan, 1))
        self.assertEqual(hearing_by(PAIR, Book(listed(book.layers)), [1, 1]), (0, 1))
        enough, layers = ahead(PAIR, [1, 1, 1]), fewest_ahead(PAIR, 2)
        self.assertTrue(shows_enough(PAIR, Enough(listed(enough.numbers), listed(enough.table))))
        self.assertTrue(shows_layers(PAIR, 2, Layers(listed(layers.layers))) and shows_shared(PAIR, [1], Shared([0, 1], [0])))
        self.assertFalse(shows_shadow_ring(PAIR, ShadowRing([[[[0, 0]]]])))

    def test_returned_values_are_new(self):
        plan = find_plan(PAIR)
        self.assertIsInstance(plan.table, tuple)
        self.assertEqual(find_plan(PAIR), plan)


if __name__ == "__main__":
    unittest.main()
