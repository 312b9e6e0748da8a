"""Whether any values are the tables of right priced plans and priced books."""

from truthwell.checks import is_within
from truthwell.moves import Mover
from truthwell.moves import is_done
from truthwell.moves import is_open
from truthwell.round_checks import are_unlike
from truthwell.round_checks import is_told_situation
from truthwell.shelves import Shelf
from truthwell.shelves import freer_rows


def is_priced_row(case, row):
    """Whether this is a situation, two integers from 0 on, and whatever stands behind them."""
    if not isinstance(row, tuple) or len(row) != 4 or not is_told_situation(case, row[0]):
        return False
    return is_within(row[1], 0, None) and is_within(row[2], 0, None)


def is_right_priced_plan(case, prices, table, most, coins):
    """Whether this is the table of a plan that is right for so many questions and coins."""
    if not isinstance(table, tuple) or not all([is_plan_row(case, row) for row in table]) or not are_unlike(table):
        return False
    known = {}
    for row in table:
        known.setdefault(row[0], []).append((row[1], row[2]))
    if not has_at_most(known.get(case.firsts, []), most, coins):
        return False
    mover = Mover(case)
    return all([is_paid(mover, prices, row, known) for row in table])


def is_plan_row(case, row):
    """Whether this is a row of a plan: with a question just if its situation is not settled."""
    if not is_priced_row(case, row):
        return False
    if is_done(case, row[0]):
        return row[3] is None
    return is_within(row[3], 0, len(case.stock.questions) - 1)


def has_at_most(pairs, questions, coins):
    """Whether one of these pairs has at most so many questions and coins."""
    return any([one <= questions and other <= coins for one, other in pairs])


def is_paid(mover, prices, row, known):
    """Whether all that may stand behind the question of a row has a row with less: by a question, and its price."""
    situation, questions, coins, number = row
    if number is None:
        return True
    return all([has_at_most(known.get(behind, []), questions - 1, coins - prices[number])
                for told, behind in mover.answers(situation, number)])


def is_right_priced_book(case, prices, table, most, coins):
    """Whether this is the table of a book that is right for so many questions and coins."""
    if not isinstance(table, tuple) or not all([is_book_row(case, prices, row) for row in table]):
        return False
    if not are_unlike(table):
        return False
    held = HeldRows(case, prices, table)
    return held.has(case.firsts, most, coins) and all([held.goes_on(row) for row in table])


def is_book_row(case, prices, row):
    """Whether this is a row of a book: not settled, with a heap for each question that can be asked, else None."""
    if not is_priced_row(case, row) or is_done(case, row[0]):
        return False
    situation, questions, coins, answers = row
    if not isinstance(answers, tuple) or len(answers) != len(prices):
        return False
    return all([told is None if questions == 0 or price > coins else is_within(told, 0, case.heaps - 1)
                for told, price in zip(answers, prices)])


class Ladder:
    """Some numbers, by which is looked up which of them are so great, as bits."""

    def __init__(self, numbers):
        marks = {}
        for at, number in enumerate(numbers):
            marks[number] = marks.get(number, 0) | (1 << at)
        self.steps = []
        found = 0
        for number in sorted(marks, reverse=True):
            found = found | marks[number]
            self.steps.append((number, found))

    def at_least(self, least):
        """Those numbers that are so great."""
        low = -1
        high = len(self.steps)
        while high - low > 1:
            middle = (low + high) // 2
            if self.steps[middle][0] >= least:
                low = middle
            else:
                high = middle
        return self.steps[low][1] if low >= 0 else 0


class HeldRows:
    """The rows of a priced book, by which is looked up whether one of them stands for a situation."""

    def __init__(self, case, prices, rows):
        self.mover = Mover(case)
        self.prices = prices
        self.shelf = Shelf(freer_rows(case.rule), [row[0] for row in rows])
        self.questions = Ladder([row[1] for row in rows])
        self.coins = Ladder([row[2] for row in rows])

    def has(self, situation, questions, coins):
        """Whether a row with so many questions and coins, or more, has a situation that stands for this one."""
        found = self.questions.at_least(questions) & self.coins.at_least(coins)
        return found & self.shelf.within(situation) != 0

    def goes_on(self, row):
        """Whether each answer of a row can come, and what is behind it has a row that stands for it."""
        situation, questions, coins, answers = row
        for number, told in enumerate(answers):
            if told is not None:
                behind = self.mover.behind(situation, number, told)
                if not is_open(behind) or not self.has(behind, questions - 1, coins - self.prices[number]):
                    return False
        return True
