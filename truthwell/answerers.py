"""Several who answer, each by a kind of lying: who lies is part of the thing."""

from truthwell.as_met import rule_as_met
from truthwell.cases import Case
from truthwell.errors import BadList
from truthwell.errors import BadQuestion
from truthwell.errors import BadRule
from truthwell.errors import BadStock
from truthwell.errors import BadWish
from truthwell.errors import NoThing
from truthwell.errors import TooMany
from truthwell.errors import Unlike
from truthwell.lists import are_rows
from truthwell.lists import first_outside
from truthwell.lists import is_list
from truthwell.questions import MOST_THINGS
from truthwell.questions import Question
from truthwell.rules import Rule
from truthwell.stocks import Stock
from truthwell.wishes import Wish


def cast(stock, kinds, roles, wish):
    """The case in which roles tell for each thing, for each answerer, the kind that it keeps."""
    want_stock(stock)
    want_rules(kinds, 1, stock.heaps, "kinds")
    want_roles(stock, len(kinds), roles)
    if not isinstance(wish, Wish):
        raise BadWish("wish")
    want_classes_of(wish, stock)
    firsts = [tuple([(kind, 0) for kind in row]) for row in roles]
    rule = rule_as_met(stock.answerers, stock.heaps, firsts, lambda stand: row_of_cast(kinds, stand))
    return Case(stock, rule, first_numbers(firsts), wish)


def want_stock(stock):
    """Raises BadStock for what is no stock."""
    if not isinstance(stock, Stock):
        raise BadStock("stock")


def want_rules(rules, answerers, heaps, part):
    """Raises BadRule for what is no list of one or more rules of so many answerers and heaps."""
    if not is_list(rules) or len(rules) == 0:
        raise BadRule(part)
    if not all([isinstance(rule, Rule) and rule.answerers == answerers and rule.heaps == heaps for rule in rules]):
        raise BadRule(part)


def want_roles(stock, kinds, roles):
    """Raises BadList for what is no list with, for each thing, for each answerer, one of so many kinds."""
    if not are_rows(roles, stock.answerers) or len(roles) != stock.things:
        raise BadList("roles")
    if not all([first_outside(row, kinds) is None for row in roles]):
        raise BadList("roles")


def want_classes_of(wish, stock):
    """Raises Unlike for a wish that has not as many classes told as the stock has things."""
    if wish.classes is not None and len(wish.classes) != stock.things:
        raise Unlike("things")


def row_of_cast(kinds, stand):
    """For each triple the stand behind it: only what is told of the one who was asked changes."""
    row = []
    for who, (kind, held) in enumerate(stand):
        for entry in kinds[kind].rows[held]:
            row.append(None if entry is None else stand[:who] + ((kind, entry),) + stand[who + 1:])
    return row


def first_numbers(keys):
    """The numbers of the stands with these keys, as the first ones are numbered."""
    numbers = {}
    for key in keys:
        numbers.setdefault(key, len(numbers))
    return [numbers[key] for key in keys]


def doubled(stock, rules, wish):
    """The case of the doubled things: with each thing the index of the rule that is kept."""
    want_stock(stock)
    want_rules(rules, stock.answerers, stock.heaps, "rules")
    if not isinstance(wish, Wish) or wish.classes is None:
        raise BadWish("wish")
    want_classes_of(wish, stock)
    many = len(rules)
    if stock.things * many > MOST_THINGS:
        raise TooMany("things", MOST_THINGS)
    firsts = [(at, 0) for _ in range(stock.things) for at in range(many)]
    rule = rule_as_met(stock.answerers, stock.heaps, firsts, lambda stand: row_of_doubled(rules, stand))
    questions = [Question(old.who, repeated(old.heaps, many)) for old in stock.questions]
    twice = Stock(stock.things * many, stock.answerers, stock.heaps, questions)
    return Case(twice, rule, first_numbers(firsts), Wish(repeated(wish.classes, many)))


def row_of_doubled(rules, stand):
    """For each triple the stand behind it, in the same rule."""
    at, held = stand
    return [None if entry is None else (at, entry) for entry in rules[at].rows[held]]


def repeated(items, many):
    """Each item so many times, one behind another."""
    return [item for item in items for _ in range(many)]


def through(question, liars):
    """The question put through these lies: its heaps 0 and 1 exchanged for these things."""
    if not isinstance(question, Question):
        raise BadQuestion("question")
    if not is_list(liars):
        raise BadList("liars")
    wrong = first_outside(liars, len(question.heaps))
    if wrong is not None:
        raise NoThing(liars[wrong])
    if max(question.heaps) > 1:
        raise Unlike("heaps")
    return Question(question.who, [1 - heap if thing in liars else heap for thing, heap in enumerate(question.heaps)])
