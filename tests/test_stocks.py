"""truthwell.questions, truthwell.stocks."""

import unittest
from itertools import product

from truthwell.errors import BadNumber
from truthwell.errors import BadQuestion
from truthwell.errors import BadStock
from truthwell.errors import BadText
from truthwell.errors import NoAnswerer
from truthwell.errors import NoQuestion
from truthwell.errors import NoThing
from truthwell.errors import TooMany
from truthwell.errors import Twice
from truthwell.questions import Question
from truthwell.stocks import Stock

from helpers import BIG
from helpers import Checks
from helpers import Draws
from helpers import ODD
from helpers import is_int


def is_heaps(value):
    return isinstance(value, (list, tuple)) and len(value) > 0 and all(is_int(heap) and 0 <= heap <= 2 for heap in value)


class Questions(Checks, unittest.TestCase):
    def test_attributes(self):
        for who, heaps in product(range(4), ([0], [2], (0, 1, 2), [1] * 16, [0] * 15 + [2])):
            question = Question(who, heaps)
            self.assertEqual([question.who, question.heaps, len(question)], [who, tuple(heaps), len(heaps)])
            self.assertIs(question.is_idle, len(set(heaps)) == 1)
            for x, y in product(range(len(heaps)), repeat=2):
                self.assertIs(question.parts(x, y), heaps[x] != heaps[y])
        self.assertEqual(Question(who=1, heaps=[0, 1]), Question(1, (0, 1)))

    def test_copied(self):
        heaps = [0, 1]
        question = Question(0, heaps)
        heaps[0] = 2
        self.assertEqual(question.heaps, (0, 1))

    def test_errors(self):
        self.odd(lambda value: Question(value, None), NoAnswerer, lambda value: is_int(value) and 0 <= value <= 3)
        self.odd(lambda value: Question(0, value), lambda value: BadQuestion("heaps"), is_heaps)
        self.odd(lambda value: Question(0, [0, value]), lambda value: BadQuestion("heaps"), lambda value: is_int(value) and 0 <= value <= 2)
        self.raises(NoAnswerer(4), Question, 4, [9])
        self.raises(BadQuestion("heaps"), Question, 3, [0] * 16 + [3])
        self.raises(TooMany("things", 16), Question, 3, [0] * 17)
        question = Question(0, [0, 1, 1])
        self.odd_stand(lambda value: question.parts(value, value), 3, NoThing)
        self.odd_stand(lambda value: question.parts(2, value), 3, NoThing)
        self.odd_stand(lambda value: question.parts(value, 3), 3, NoThing)
        self.raises(NoThing(3), question.parts, 2, 3)
        self.assertEqual(question.parts(x=0, y=2), True)

    def test_equal(self):
        question = Question(0, [0, 1])
        self.assertTrue(question == Question(0, (0, 1)))
        self.assertFalse(question != Question(0, (0, 1)))
        for other in (Question(1, [0, 1]), Question(0, [0, 2]), Question(0, [0, 1, 1]), None, (0, 1), "0 01", 0):
            self.assertTrue(question != other)
            self.assertFalse(question == other)

    def test_texts(self):
        for who, heaps in product(range(4), ([0], [2, 1], [0, 1, 2] * 5, [1] * 16)):
            question = Question(who, heaps)
            self.assertEqual(str(question), f"{who} " + "".join(map(str, heaps)))
            self.assertEqual(Question.read(str(question)), question)
        for text, word in (("", 0), ("4 0", 0), ("-1 0", 0), ("00 0", 0), ("0", 1), ("0 ", 1), ("0 3", 1), ("0 013", 1), ("0 -1", 1),
                           ("0 01 ", 2), ("0 01 1", 2), ("0 " + "0" * 17, 1), ("0  01", 1), (" 0 01", 0), ("0 0\u0661", 1),
                           ("x", 0), ("0 0a", 1), ("0 01\n", 1), ("0,01", 0), ("1 01 |", 2)):
            self.text_fault(text, word, Question.read)
        self.odd(Question.read, lambda value: BadText(0, 0), lambda value: value in ("0", "0 0"))


class Stocks(Checks, unittest.TestCase):
    def test_attributes(self):
        rows = [Question(0, [0, 1, 2]), Question(1, [0, 1, 2]), Question(0, [0, 0, 0])]
        stock = Stock(3, 2, 3, rows)
        self.assertEqual([stock.things, stock.answerers, stock.heaps, stock.questions, len(stock), list(stock), Stock.MOST],
                         [3, 2, 3, tuple(rows), 3, rows, 64])
        self.assertEqual([stock[k] for k in range(3)], rows)
        self.assertEqual(list(reversed(list(stock))), rows[::-1])
        self.assertEqual(Stock(things=3, answerers=2, heaps=3, questions=tuple(rows)), stock)
        rows.clear()
        self.assertEqual(len(stock), 3)

    def test_empty(self):
        stock = Stock(16, 4, 3, [])
        self.assertEqual([len(stock), list(stock), str(stock), Stock.read("16 4 3")], [0, [], "16 4 3", stock])
        self.raises(NoQuestion(0), lambda: stock[0])

    def test_items(self):
        stock = Stock.singles(3)
        self.odd_stand(lambda value: stock[value], 3, NoQuestion)
        for value in (3, -1, slice(0, 2), "0", 0.0):
            self.raises(NoQuestion(value), lambda: stock[value])

    def test_numbers(self):
        self.odd(lambda value: Stock(value, 9, 9, 9), lambda value: BadNumber("things"), lambda value: is_int(value) and 1 <= value <= 16)
        self.odd(lambda value: Stock(1, value, 9, 9), lambda value: BadNumber("answerers"), lambda value: is_int(value) and 1 <= value <= 4)
        self.odd(lambda value: Stock(1, 1, value, 9), lambda value: BadNumber("heaps"), lambda value: is_int(value) and value == 2)
        for things in (0, 17):
            self.raises(BadNumber("things"), Stock, things, 0, 0, 0)
        for answerers in (0, 5):
            self.raises(BadNumber("answerers"), Stock, 16, answerers, 0, 0)
        for heaps in (1, 4):
            self.raises(BadNumber("heaps"), Stock, 16, 4, heaps, 0)

    def test_questions(self):
        bad = BadStock("questions")
        self.odd(lambda value: Stock(2, 1, 2, value), lambda value: bad, lambda value: value in ([], ()) and not isinstance(value, dict))
        self.odd(lambda value: Stock(2, 1, 2, [value]), lambda value: bad)
        fine = Question(0, [0, 1])
        for questions in (fine, [Question(1, [0, 1])], [fine, Question(0, [0, 2])], [fine, Question(0, [0])], [fine, Question(0, [0, 1, 1])],
                          [fine, fine, None], {0: fine}, [(0, (0, 1))], iter([fine])):
            self.raises(bad, Stock, 2, 1, 2, questions)
        self.assertEqual(len(Stock(2, 2, 3, [Question(1, [0, 1]), Question(0, [0, 2])])), 2)

    def test_twice(self):
        one, two = Question(0, [0, 1]), Question(0, [1, 0])
        self.raises(Twice(2), Stock, 2, 1, 2, [one, two, Question(0, [0, 1]), two])
        self.raises(Twice(1), Stock, 2, 1, 2, [one, one])
        self.assertEqual(len(Stock(2, 2, 2, [one, Question(1, [0, 1])])), 2)

    def many(self, count):
        rows = list(product(range(2), repeat=7))
        return [Question(0, row) for row in rows[:count]]

    def test_too_many(self):
        self.assertEqual(len(Stock(7, 1, 2, self.many(64))), 64)
        self.raises(TooMany("questions", 64), Stock, 7, 1, 2, self.many(65))
        self.raises(Twice(65), Stock, 7, 1, 2, self.many(65) + self.many(1))
        self.raises(BadStock("questions"), Stock, 7, 1, 2, self.many(65) + [None])

    def test_equal(self):
        stock = Stock.splits(2)
        self.assertTrue(stock == Stock.splits(2))
        self.assertFalse(stock != Stock.splits(2))
        rows = list(stock)
        for other in (Stock.splits(3), Stock(2, 1, 2, rows[::-1]), Stock(2, 2, 2, rows), Stock(2, 1, 3, rows), None, rows, str(stock)):
            self.assertFalse(stock == other)
            self.assertTrue(stock != other)
        self.assertFalse(Stock(2, 1, 2, []) == Stock(3, 1, 2, []))

    def test_ready(self):
        for things in range(1, 5):
            stock = Stock.splits(things)
            self.assertEqual([question.heaps for question in stock], [(0,) + row for row in product(range(2), repeat=things - 1)])
            self.assertEqual([stock.things, stock.answerers, stock.heaps], [things, 1, 2])
        for things in range(1, 17):
            stock = Stock.singles(things)
            self.assertEqual([question.heaps for question in stock],
                             [tuple(int(x == i) for x in range(things)) for i in range(things)])
            self.assertEqual([stock.things, stock.answerers, stock.heaps], [things, 1, 2])
        self.odd(Stock.splits, lambda value: BadNumber("things"), lambda value: is_int(value) and 1 <= value <= 4)
        self.odd(Stock.singles, lambda value: BadNumber("things"), lambda value: is_int(value) and 1 <= value <= 16)
        for things in (0, 5):
            self.raises(BadNumber("things"), Stock.splits, things)
        for things in (0, 17):
            self.raises(BadNumber("things"), Stock.singles, things=things)


class Texts(Checks, unittest.TestCase):
    def test_written_and_read(self):
        draws = Draws(51)
        for _ in range(40):
            things, answerers, heaps = 1 + draws.below(16), 1 + draws.below(4), 2 + draws.below(2)
            rows = {(draws.below(answerers), tuple(draws.below(heaps) for _ in range(things))) for _ in range(draws.below(30))}
            stock = Stock(things, answerers, heaps, [Question(who, row) for who, row in sorted(rows)])
            self.assertEqual(Stock.read(str(stock)), stock)
            self.assertEqual(str(Stock.read(str(stock))), str(stock))

    def test_words(self):
        for text, word in (("", 0), ("0 1 2", 0), ("17 1 2", 0), ("2", 1), ("2 0 2", 1), ("2 5 2", 1), ("2 1", 2), ("2 1 1", 2), ("2 1 4", 2),
                           ("2 1 2 ", 3), ("2 1 2 0", 3), ("2 1 2 |", 4), ("2 1 2 | ", 4), ("2 1 2 | 1 01", 4), ("2 1 2 | -1 01", 4), ("2 1 2 | 0", 5),
                           ("2 1 2 | 0 ", 5), ("2 1 2 | 0 0", 5), ("2 1 2 | 0 012", 5), ("2 1 2 | 0 02", 5), ("2 1 2 | 0 01 |", 7),
                           ("2 1 2 | 0 01 0", 6), ("2 1 2 | 0 01 ", 6), ("2 1 2 | 0 01 | 0 01", 8), ("2 1 2 | 0 01 | 0 10 | 0 01", 11),
                           ("2 1 2 | 0 01 ;", 6), ("02 1 2", 0), ("2  1 2", 1), ("2 1 2 || 0 01", 3), ("a", 0), ("2 1 2 | 0 01\n", 5)):
            self.text_fault(text, word, Stock.read)
        self.assertEqual(len(Stock.read("2 2 2 | 0 01 | 1 01")), 2)
        self.odd(Stock.read, lambda value: BadText(0, 0), lambda value: isinstance(value, str))

    def test_none_left(self):
        self.text_fault("1 1 2 | 0 0 | 0 1 | 0 1", 11, Stock.read)
        self.text_fault("1 1 2 | 0 0 | 0 1 |", 10, Stock.read)
        self.text_fault("1 1 2 | 0 0 | 0 1 | 0", 11, Stock.read)
        self.text_fault("1 1 2 | 0 0 | 0 1 | 1", 10, Stock.read)

    def test_many(self):
        rows = ["".join(row) for row in product("01", repeat=7)]
        text = "7 1 2" + "".join(" | 0 " + row for row in rows[:64])
        self.assertEqual(len(Stock.read(text)), 64)
        self.text_fault(text + " | 0 " + rows[64], 3 + 3 * 64, Stock.read)
        self.text_fault(text + " |", 3 + 3 * 64, Stock.read)
        self.text_fault(text + " 0", 3 + 3 * 64, Stock.read)

    def test_any_value(self):
        for value in ODD + [BIG]:
            if not isinstance(value, str):
                self.raises(BadText(0, 0), Stock.read, text=value)

    def test_bent(self):
        """Against all texts of up to three questions about one or two things: the first word that none has there."""
        begins, wholes = {(): True}, {}
        for things, answerers in product((1, 2), (1, 2)):
            rows = [("|", str(who), "".join(row)) for who in range(answerers) for row in product("01", repeat=things)]
            for count in range(min(4, len(rows) + 1)):
                for told in product(rows, repeat=count):
                    if len(set(told)) == count:
                        words = (str(things), str(answerers), "2") + tuple(word for row in told for word in row)
                        wholes[words] = True
                        begins.update({words[:k]: True for k in range(len(words) + 1)})
        draws = Draws(52)
        texts = list(wholes)
        for text in [draws.pick(texts) for _ in range(150)]:
            for at in range(len(text)):
                bent = [text[:at] + text[at + 1:]]
                bent += [text[:at] + (word,) + text[at + 1:] for word in ("0", "1", "2", "|", "", "00", "01", "11")]
                bent += [text[:at] + (word,) + text[at:] for word in ("0", "1", "|", "")]
                for words in bent:
                    self.check_bent(words, begins, wholes)

    def check_bent(self, words, begins, wholes):
        if words[:1] not in (("1",), ("2",)) or words[1:2] not in (("1",), ("2",)) or words[2:3] != ("2",) or words.count("|") > 2:
            return
        if words in wholes:
            self.assertEqual(str(Stock.read(" ".join(words))), " ".join(words))
            return
        wrong = [k for k in range(len(words)) if words[:k + 1] not in begins]
        self.text_fault(" ".join(words), wrong[0] if wrong else len(words), Stock.read)


if __name__ == "__main__":
    unittest.main()
