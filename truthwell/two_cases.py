"""Two cases asked as one."""

from truthwell.case_wants import want_case
from truthwell.cases import Case
from truthwell.errors import BadCase
from truthwell.errors import TooMany
from truthwell.errors import Unlike
from truthwell.questions import Question
from truthwell.rules import Rule
from truthwell.stocks import Stock
from truthwell.stocks import first_ones
from truthwell.wishes import Wish

MOST_THINGS = 16
MOST_ANSWERERS = 4


def two_asked(one, other):
    """Both cases asked as one, each with answerers and a rule of its own."""
    want_two_cases(one, other)
    things = one.things * other.things
    answerers = one.answerers + other.answerers
    want_few("things", things, MOST_THINGS)
    want_few("answerers", answerers, MOST_ANSWERERS)
    questions = joined_questions(one, other, one.answerers)
    want_few("questions", len(questions), Stock.MOST)
    want_few("stands", len(one.rule.rows) * len(other.rule.rows), Rule.MOST)
    stock = Stock(things, answerers, one.heaps, questions)
    many = len(other.rule.rows)
    firsts = [s * many + t for s in one.firsts for t in other.firsts]
    return Case(stock, joined_rule(one.rule, other.rule), firsts, joined_wish(one, other))


def one_asked(one, other):
    """Both cases, which have one rule and one first stand, asked as one of the same answerers."""
    want_two_cases(one, other)
    if one.rule != other.rule:
        raise Unlike("rule")
    if len(set(one.firsts + other.firsts)) > 1:
        raise Unlike("firsts")
    things = one.things * other.things
    want_few("things", things, MOST_THINGS)
    questions = first_ones(joined_questions(one, other, 0))
    want_few("questions", len(questions), Stock.MOST)
    stock = Stock(things, one.answerers, one.heaps, questions)
    return Case(stock, one.rule, [one.firsts[0]] * things, joined_wish(one, other))


def want_two_cases(one, other):
    """For what is not two cases for classes, of as many heaps, the errors."""
    want_case(one, "one")
    want_case(other, "other")
    if one.wish.classes is None or other.wish.classes is None:
        raise BadCase("wish")
    if one.heaps != other.heaps:
        raise Unlike("heaps")


def want_few(what, many, most):
    """Raises TooMany for more than most."""
    if many > most:
        raise TooMany(what, most)


def joined_questions(one, other, shift):
    """The questions about the pairs of things: of the one, then of the other, whose answerers are shifted."""
    ours = [Question(old.who, [heap for heap in old.heaps for _ in range(other.things)])
            for old in one.stock.questions]
    theirs = [Question(old.who + shift, old.heaps * one.things) for old in other.stock.questions]
    return ours + theirs


def joined_rule(one, other):
    """The rule of the pairs of stands, in which answerers of the one come ahead of the other's."""
    many = len(other.rows)
    rows = []
    for s, left_row in enumerate(one.rows):
        for t, right_row in enumerate(other.rows):
            left = [None if entry is None else entry * many + t for entry in left_row]
            right = [None if entry is None else s * many + entry for entry in right_row]
            rows.append(left + right)
    return Rule(one.answerers + other.answerers, one.heaps, rows)


def joined_wish(one, other):
    """The wish for the pairs of classes."""
    many = other.things
    return Wish([x * many + y for x in one.wish.classes for y in other.wish.classes])
