"""Cases of ready rules and made-up questions, which rounds and prices make unlike."""

from helpers import Draws
from plain import all_clouds

from truthwell.cases import Case
from truthwell.joined import each_own
from truthwell.joined import either
from truthwell.questions import Question
from truthwell.ready import after_truths
from truthwell.ready import always_false
from truthwell.ready import at_most
from truthwell.ready import at_turns
from truthwell.ready import false_yes
from truthwell.ready import named_tells
from truthwell.ready import never_running
from truthwell.ready import one_in
from truthwell.ready import truthful
from truthwell.stocks import Stock
from truthwell.wishes import Wish

RULES = [truthful(), at_most(1), one_in(3), never_running(), after_truths(1), after_truths(2), after_truths(3), after_truths(4), at_turns(2),
         at_turns(3), false_yes(1), either(truthful(), always_false()), named_tells(), each_own([truthful(), at_most(1)]),
         each_own([after_truths(2), at_most(1)]), truthful(2, 3), after_truths(3, 1, 3), each_own([after_truths(1), after_truths(2)])]


def rich_case(draws, most=300):
    """A case of which not too many clouds come about."""
    while True:
        rule = draws.pick(RULES)
        things = 2 + draws.below(4)
        questions = []
        for _ in range(1 + draws.below(5)):
            question = Question(draws.below(rule.answerers), [draws.below(rule.heaps) for _ in range(things)])
            if question not in questions:
                questions.append(question)
        wish = Wish.each(things) if draws.below(3) else Wish.left(1 + draws.below(2))
        case = Case.alike(Stock(things, rule.answerers, rule.heaps, questions), rule, wish)
        if all_clouds(case, 2, most) is not None:
            return case


def rich_cases(seed, many, most=300):
    draws = Draws(seed)
    return [rich_case(draws, most) for _ in range(many)]
