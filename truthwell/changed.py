"""Cases made of others."""

from truthwell.case_wants import want_case
from truthwell.case_wants import want_numbers
from truthwell.case_wants import want_question
from truthwell.cases import Case
from truthwell.errors import BadCase
from truthwell.errors import NoThing
from truthwell.errors import NotEven
from truthwell.errors import Twice
from truthwell.least_rule import least_form
from truthwell.lists import are_integers
from truthwell.lists import first_outside
from truthwell.lists import is_each_once
from truthwell.questions import Question
from truthwell.rules import Rule
from truthwell.stocks import Stock
from truthwell.stocks import first_ones
from truthwell.triples import all_triples
from truthwell.triples import place_of
from truthwell.wishes import Wish


def renamed(case, order):
    """Thing i of the new case is order[i]."""
    want_case(case, "case")
    if not is_each_once(order, case.things):
        raise BadCase("order")
    return case_of_things(case, order)


def narrowed(case, things):
    """The case with just these things; of questions that are equal then the first one stays."""
    want_case(case, "case")
    if not are_integers(things) or len(things) == 0 or len(set(things)) != len(things):
        raise BadCase("things")
    wrong = first_outside(things, case.things)
    if wrong is not None:
        raise NoThing(things[wrong])
    return case_of_things(case, sorted(things))


def case_of_things(case, things):
    """The case whose thing i is things[i]."""
    questions = [Question(old.who, [old.heaps[thing] for thing in things]) for old in case.stock.questions]
    stock = Stock(len(things), case.answerers, case.heaps, first_ones(questions))
    return Case(stock, case.rule, [case.firsts[thing] for thing in things], wish_of_things(case.wish, things))


def wish_of_things(wish, things):
    """The wish with the classes of just these things; a number stays."""
    if wish.classes is None:
        return wish
    return Wish([wish.classes[thing] for thing in things])


def picked(case, numbers):
    """The case with just these questions, in the told order."""
    want_case(case, "case")
    want_numbers(case, numbers)
    for at, number in enumerate(numbers):
        if number in numbers[:at]:
            raise Twice(number)
    return with_questions(case, [case.stock.questions[number] for number in numbers])


def with_questions(case, questions):
    """The case with these questions instead."""
    stock = Stock(case.things, case.answerers, case.heaps, questions)
    return Case(stock, case.rule, case.firsts, case.wish)


def turned(case, number, heaps):
    """The case with heaps[g] for each heap g in this question."""
    want_case(case, "case")
    want_question(case, number)
    if not is_each_once(heaps, case.heaps):
        raise BadCase("heaps")
    if not case.rule.is_even:
        raise NotEven()
    questions = list(case.stock.questions)
    old = questions[number]
    questions[number] = Question(old.who, [heaps[heap] for heap in old.heaps])
    for other, question in enumerate(questions):
        if other != number and question == questions[number]:
            raise Twice(other)
    return with_questions(case, questions)


def asked_of(case, order):
    """Answerer i of the new case is order[i], in rule and questions."""
    want_case(case, "case")
    if not is_each_once(order, case.answerers):
        raise BadCase("order")
    triples = all_triples(case.answerers, case.heaps)
    places = [place_of(case.heaps, order[who], true, told) for who, true, told in triples]
    rows = [[row[place] for place in places] for row in case.rule.rows]
    asks = list(order)
    questions = [Question(asks.index(old.who), old.heaps) for old in case.stock.questions]
    stock = Stock(case.things, case.answerers, case.heaps, questions)
    return Case(stock, Rule(case.answerers, case.heaps, rows), case.firsts, case.wish)


def with_rule(case, rule, firsts):
    """The case with this rule and these first stands instead."""
    want_case(case, "case")
    return Case(case.stock, rule, firsts, case.wish)


def with_wish(case, wish):
    """The case with this wish instead."""
    want_case(case, "case")
    return Case(case.stock, case.rule, case.firsts, wish)


def least_case(case):
    """The case with the least form of its rule, for its first stands."""
    want_case(case, "case")
    rule, firsts = least_form(case.rule, case.firsts)
    return Case(case.stock, rule, firsts, case.wish)
