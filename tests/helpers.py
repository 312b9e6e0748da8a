"""What the tests share: odd values, made-up rules and cases, and plain searches to compare with."""

from itertools import product

from truthwell.cases import Case
from truthwell.questions import Question
from truthwell.rules import Rule
from truthwell.stocks import Stock
from truthwell.wishes import Wish

BIG = 10 ** 70

ODD = [None, True, False, 0, 1, 2, -1, 64, BIG, -BIG, "", "a", "0", "0 0", b"0", 1.5, [], (), [[]], [[], ()], ((),),
       [0], [1], [True], [False, 0], [None], ["0"], [0, 0], (0, 1), [1, 0, BIG], [-1], [[0, 0]], [[0, 0, 0]],
       [[0, True]], [(0, 0, False)], [[0, 0, 0, 0]], [[0, None, None, 0]], {}, {0: 0}, {"a": []}, object()]


class Draws:
    """Made-up numbers, the same ones in each run."""

    def __init__(self, seed):
        self.state = seed * 7919 + 17

    def below(self, bound):
        self.state = (self.state * 6364136223846793005 + 1442695040888963407) % 2 ** 64
        return (self.state >> 33) % bound

    def pick(self, values):
        return values[self.below(len(values))]


def is_int(value):
    return isinstance(value, int) and not isinstance(value, bool)


def triples_of(rule):
    return list(product(range(rule.answerers), range(rule.heaps), range(rule.heaps)))


def made_rule(draws, answerers, heaps, stands, bars=3):
    """A live rule in which about one of so many triples is let, or more."""
    rows = []
    for _ in range(stands):
        row = []
        for _ in range(answerers * heaps):
            entries = [draws.below(stands) if draws.below(bars) == 0 else None for _ in range(heaps)]
            entries[draws.below(heaps)] = draws.below(stands)
            row.extend(entries)
        rows.append(row)
    return Rule(answerers, heaps, rows)


def made_rules(seed, many, answerers=1, heaps=2, most=3):
    draws = Draws(seed)
    return [made_rule(draws, answerers, heaps, 1 + draws.below(most), 1 + draws.below(3)) for _ in range(many)]


def made_case(draws, things, answerers=1, heaps=2, stands=3, questions=2, number=False):
    rule = made_rule(draws, answerers, heaps, 1 + draws.below(stands), 2)
    rows = []
    for _ in range(questions):
        row = (draws.below(answerers), tuple(draws.below(heaps) for _ in range(things)))
        if row not in rows:
            rows.append(row)
    stock = Stock(things, answerers, heaps, [Question(who, row) for who, row in rows])
    wish = Wish.left(1 + draws.below(2)) if number else Wish.of([draws.below(3) for _ in range(things)])
    return Case(stock, rule, [draws.below(len(rule)) for _ in range(things)], wish)


def made_cases(seed, many, things=4, answerers=2, heaps=3, stands=3, questions=3):
    """Cases of at most so much of each: most of them for classes, some with a number as the wish."""
    draws = Draws(seed)
    return [made_case(draws, 1 + draws.below(things), 1 + draws.below(answerers), 2 + draws.below(heaps - 1), stands,
                      draws.below(questions + 1), draws.below(3) == 0) for _ in range(many)]


def end_of(rule, stand, past):
    """The stand to which a past leads; None if it is not lawful. By the rows alone."""
    for who, true, told in past:
        stand = rule.rows[stand][who * rule.heaps ** 2 + true * rule.heaps + told]
        if stand is None:
            return None
    return stand


def is_ok(rule, stand, past):
    return end_of(rule, stand, past) is not None


def pasts_to(rule, most):
    """All pasts of at most so many triples, in their order."""
    for length in range(most + 1):
        yield from product(triples_of(rule), repeat=length)


def same(error, other):
    return type(error) is type(other) and vars(error) == vars(other)


class Checks:
    """For test cases: which error is raised, with which fields."""

    def raises(self, error, call, *args, **more):
        try:
            got = call(*args, **more)
            if hasattr(got, "__next__"):
                got = list(got)
        except type(error) as caught:
            self.assertIs(type(caught), type(error))
            self.assertEqual(vars(caught), vars(error))
            return
        self.fail(f"{type(error).__name__} {vars(error)} was not raised for {args} {more}: {got!r}")

    def odd(self, call, error, fine=lambda value: False):
        """Each odd value but the fine ones raises the error that is made for it."""
        for value in ODD:
            if not fine(value):
                with self.subTest(value=value):
                    self.raises(error(value), call, value)

    def odd_stand(self, call, many, error):
        self.odd(call, error, lambda value: is_int(value) and 0 <= value < many)

    def text_fault(self, text, word, read):
        from truthwell.errors import BadText
        with self.subTest(text=text):
            self.raises(BadText(0, word), read, text)
