"""Cases: a stock, a rule, first stands and a wish."""

from truthwell.errors import BadCase
from truthwell.errors import BadRule
from truthwell.errors import BadStock
from truthwell.errors import BadWish
from truthwell.errors import NoStand
from truthwell.errors import Unlike
from truthwell.lists import are_integers
from truthwell.lists import first_outside
from truthwell.rule_rows import read_rows
from truthwell.rule_wants import want_match
from truthwell.rules import Rule
from truthwell.stocks import Stock
from truthwell.stocks import read_stock
from truthwell.wishes import Wish
from truthwell.wishes import read_wish
from truthwell.words import Words


class Case:
    """Who answers by which rule, what can be asked, where each thing begins, what is wished for."""

    def __init__(self, stock, rule, firsts, wish):
        want_values(stock, rule, firsts, wish)
        wrong = first_outside(firsts, len(rule.rows))
        if wrong is not None:
            raise NoStand(firsts[wrong])
        want_match(stock, rule)
        if wish.classes is not None and len(wish.classes) != stock.things:
            raise Unlike("things")
        self.stock = stock
        self.rule = rule
        self.firsts = tuple(firsts)
        self.wish = wish
        self.things = stock.things
        self.answerers = stock.answerers
        self.heaps = stock.heaps

    @classmethod
    def read(cls, text):
        """The case whose text this is."""
        words = Words(text)
        stock, rule, firsts, wish = read_case(words)
        words.end()
        return cls(stock, rule, firsts, wish)

    @staticmethod
    def alike(stock, rule, wish):
        """The case in which all things begin at stand 0."""
        if not isinstance(stock, Stock):
            raise BadStock("stock")
        return Case(stock, rule, [0] * stock.things, wish)

    def __eq__(self, other):
        return (isinstance(other, Case) and self.stock == other.stock and self.rule == other.rule
                and self.firsts == other.firsts and self.wish == other.wish)

    def __str__(self):
        return " ; ".join([str(self.stock), str(self.rule), " ".join([str(stand) for stand in self.firsts]),
                           str(self.wish)])


def want_values(stock, rule, firsts, wish):
    """Raises the errors of what is no stock, rule, list of an integer for each thing, wish."""
    if not isinstance(stock, Stock):
        raise BadStock("stock")
    if not isinstance(rule, Rule):
        raise BadRule("rule")
    if not are_integers(firsts) or len(firsts) != stock.things:
        raise BadCase("firsts")
    if not isinstance(wish, Wish):
        raise BadWish("wish")


def read_case(words):
    """The stock, the rule, the first stands and the wish whose words stand here."""
    things, answerers, heaps, questions = read_stock(words, Stock.MOST)
    words.skip(";")
    words.skip(str(answerers))
    words.skip(str(heaps))
    rows = read_rows(words, answerers, heaps, Rule.MOST)
    words.skip(";")
    firsts = [words.take_number(0, len(rows) - 1) for _ in range(things)]
    words.skip(";")
    classes, most = read_wish(words, things, things)
    stock = Stock(things, answerers, heaps, questions)
    return stock, Rule(answerers, heaps, rows), firsts, Wish(classes, most)
