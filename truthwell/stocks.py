"""Stocks: the questions that can be asked."""

from truthwell.checks import is_within
from truthwell.errors import BadStock
from truthwell.errors import NoQuestion
from truthwell.errors import TooMany
from truthwell.errors import Twice
from truthwell.lists import first_outside
from truthwell.lists import is_list
from truthwell.lists import want_number
from truthwell.questions import Question
from truthwell.questions import heaps_word
from truthwell.words import Words


class Stock:
    """Unlike questions about some things, in an order."""

    MOST = 64

    def __init__(self, things, answerers, heaps, questions):
        want_number(things, 1, 16, "things")
        want_number(answerers, 1, 4, "answerers")
        want_number(heaps, 2, 3, "heaps")
        if not is_list(questions) or not all([is_fit(item, things, answerers, heaps) for item in questions]):
            raise BadStock("questions")
        want_unlike(questions)
        if len(questions) > Stock.MOST:
            raise TooMany("questions", Stock.MOST)
        self.things = things
        self.answerers = answerers
        self.heaps = heaps
        self.questions = tuple(questions)

    @classmethod
    def read(cls, text):
        """The stock whose text this is."""
        words = Words(text)
        things, answerers, heaps, questions = read_stock(words, cls.MOST)
        words.end()
        return cls(things, answerers, heaps, questions)

    @staticmethod
    def splits(things):
        """All questions about so many things, 1 to 4, with thing 0 in heap 0."""
        want_number(things, 1, 4, "things")
        rows = [(0,)]
        for _ in range(things - 1):
            rows = [row + (heap,) for row in rows for heap in range(2)]
        return Stock(things, 1, 2, [Question(0, row) for row in rows])

    @staticmethod
    def singles(things):
        """For each of so many things, 1 to 16, the question that has it alone in heap 1."""
        want_number(things, 1, 16, "things")
        rows = [[1 if thing == alone else 0 for thing in range(things)] for alone in range(things)]
        return Stock(things, 1, 2, [Question(0, row) for row in rows])

    def __len__(self):
        return len(self.questions)

    def __iter__(self):
        return iter(self.questions)

    def __getitem__(self, number):
        if not is_within(number, 0, len(self.questions) - 1):
            raise NoQuestion(number)
        return self.questions[number]

    def __eq__(self, other):
        return (isinstance(other, Stock) and self.things == other.things and self.answerers == other.answerers
                and self.heaps == other.heaps and self.questions == other.questions)

    def __str__(self):
        return " | ".join([f"{self.things} {self.answerers} {self.heaps}"]
                          + [str(question) for question in self.questions])


def is_fit(value, things, answerers, heaps):
    """Whether a value is a question for so many things, answerers and heaps."""
    if not isinstance(value, Question) or len(value.heaps) != things:
        return False
    return value.who < answerers and first_outside(value.heaps, heaps) is None


def want_unlike(questions):
    """Raises Twice with the number of the first question that equals one ahead of it."""
    seen = set()
    for number, question in enumerate(questions):
        if (question.who, question.heaps) in seen:
            raise Twice(number)
        seen.add((question.who, question.heaps))


def first_ones(questions):
    """The questions but those that equal one ahead of them."""
    seen = set()
    found = []
    for question in questions:
        if (question.who, question.heaps) not in seen:
            found.append(question)
        seen.add((question.who, question.heaps))
    return found


def read_stock(words, most):
    """The things, answerers, heaps and questions, at most so many, whose words stand here."""
    things = words.take_number(1, 16)
    answerers = words.take_number(1, 4)
    heaps = words.take_number(2, 3)
    questions = []
    while len(questions) < most and words.sees("|"):
        words.skip("|")
        questions.append(read_unlike(words, things, answerers, heaps, questions))
    return things, answerers, heaps, questions


def read_unlike(words, things, answerers, heaps, questions):
    """The question whose words stand here; it is unlike these ones."""
    who = words.take_number(0, answerers - 1)
    for question in questions:
        if question.who == who and words.sees(heaps_word(question.heaps)):
            words.refuse()
    return Question(who, words.take_digits(things, things, heaps))
