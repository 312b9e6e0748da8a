"""The least coins for which situations are settled, by how many questions may be asked."""

from truthwell.met import awaited_answers
from truthwell.met import met_from


class Purses:
    """The situations that come about in a case, and what each of them costs with questions at such prices.

    falls has for each situation the pairs (questions, coins): from so many questions on it costs so many
    coins at least; ascending by questions, descending by coins. Ahead of the first one it is never. With a
    number as most, no more questions are looked at.
    """

    def __init__(self, case, prices, most):
        self.met, self.steps = met_from(case, case.firsts)
        self.prices = prices
        self.falls = [[(0, 0)] if row is None else [] for row in self.steps]
        ahead = awaited_answers(self.steps)[0]
        now = [0 if row is None else None for row in self.steps]
        level = [number for number, row in enumerate(self.steps) if row is None]
        questions = 0
        while level and (most is None or questions < most):
            questions += 1
            pairs = sorted({pair for behind in level for pair in ahead[behind]})
            found = self.cheaper(now, pairs)
            level = sorted(found)
            for number in level:
                now[number] = found[number]
                self.falls[number].append((questions, found[number]))

    def cheaper(self, now, pairs):
        """For those situations that cost less with one of these questions, asked first, the least coins."""
        found = {}
        for number, question in pairs:
            coins = self.worth(now, number, question)
            if is_less(coins, now[number]) and is_less(coins, found.get(number)):
                found[number] = coins
        return found

    def worth(self, now, number, question):
        """What a situation costs with a question, asked first, where others cost what is told; None for never."""
        coins = [now[behind] for behind in self.steps[number][question] if behind is not None]
        return None if None in coins else self.prices[question] + max(coins)

    def fall(self, number, questions):
        """The index of the pair that tells what a situation costs with so many questions; -1 for never."""
        low = -1
        high = len(self.falls[number])
        while high - low > 1:
            middle = (low + high) // 2
            if self.falls[number][middle][0] <= questions:
                low = middle
            else:
                high = middle
        return low

    def cost(self, number, questions):
        """What a situation costs with so many questions; None for never."""
        at = self.fall(number, questions)
        return None if at < 0 else self.falls[number][at][1]


def is_less(one, other):
    """Whether coins are less than others; None, for never, is greater than all."""
    return one is not None and (other is None or one < other)


def priced_plan_rows(purses, most):
    """The rows of a priced plan for the first situation: for so many questions, with the least coins."""
    rows = {}
    waiting = [(0, most)]
    while waiting:
        number, questions = waiting.pop()
        begin, coins = purses.falls[number][purses.fall(number, questions)]
        if (number, begin) not in rows:
            question = cheapest(purses, number, begin, coins)
            rows[(number, begin)] = (purses.met[number], begin, coins, question)
            behind = [] if question is None else purses.steps[number][question]
            waiting.extend([(other, begin - 1) for other in behind if other is not None])
    return sorted(rows.values())


def cheapest(purses, number, questions, coins):
    """The least question with which a situation costs just these coins; None for a settled one."""
    row = purses.steps[number]
    if row is None:
        return None
    for question in range(len(row)):
        behind = [purses.cost(other, questions - 1) for other in row[question] if other is not None]
        if None not in behind and purses.prices[question] + max(behind) == coins:
            return question
    return None


def priced_book_rows(purses, most, coins):
    """The rows of a priced book for so many questions and coins, where the first situation costs more.

    A situation has a row for each of its falls: for one coin less than it costs ahead of it, and for the
    most questions with which it costs so much; but for no more than are told.
    """
    rows = {}
    waiting = [(0, most)]
    while waiting:
        number, questions = waiting.pop()
        at = purses.fall(number, questions)
        if (number, at) not in rows:
            asked, held = held_at(purses, number, at, most, coins)
            ends = answers_held(purses, number, asked, held)
            answers = tuple([None if end is None else end[0] for end in ends])
            rows[(number, at)] = (purses.met[number], asked, held, answers)
            waiting.extend([(end[1], asked - 1) for end in ends if end is not None])
    return [rows[key] for key in sorted(rows)]


def held_at(purses, number, at, most, coins):
    """The questions and the coins that are too few for a situation ahead of its next fall, but no more than are
    told."""
    falls = purses.falls[number]
    asked = falls[at + 1][0] - 1 if at + 1 < len(falls) else most
    held = coins if at < 0 else falls[at][1] - 1
    return min(asked, most), min(held, coins)


def answers_held(purses, number, asked, held):
    """For each question None, if it can't be asked; otherwise the pair (told, what is behind it) of the least
    answer behind which too few coins are left."""
    found = []
    for question, behind in enumerate(purses.steps[number]):
        left = held - purses.prices[question]
        if asked == 0 or left < 0:
            found.append(None)
        else:
            found.append([(told, other) for told, other in enumerate(behind)
                          if other is not None and is_less(left, purses.cost(other, asked - 1))][0])
    return found
