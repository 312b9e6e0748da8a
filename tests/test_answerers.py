"""truthwell.answerers."""

import unittest
from itertools import product

from truthwell.answerers import cast
from truthwell.answerers import doubled
from truthwell.answerers import through
from truthwell.cases import Case
from truthwell.depths import depth_of
from truthwell.errors import BadList
from truthwell.errors import BadQuestion
from truthwell.errors import BadRule
from truthwell.errors import BadStock
from truthwell.errors import BadWish
from truthwell.errors import NoThing
from truthwell.errors import TooMany
from truthwell.errors import Unlike
from truthwell.joined import each_own
from truthwell.joined import either
from truthwell.questions import Question
from truthwell.ready import after_truths
from truthwell.ready import always_false
from truthwell.ready import at_most
from truthwell.ready import never_running
from truthwell.ready import one_in
from truthwell.ready import truthful
from truthwell.rules import Rule
from truthwell.stocks import Stock
from truthwell.wishes import Wish

from helpers import BIG
from helpers import Checks
from helpers import Draws
from helpers import ODD
from helpers import is_ok
from helpers import made_rule
from helpers import pasts_to
from helpers import triples_of

KINDS = [truthful(), always_false(), at_most(1), never_running()]
PLAIN = Question(0, [0, 0, 1, 1])
BIT = Wish.of([0, 0, 1, 1])


def made_casts(seed, many):
    """Stocks, kinds and roles."""
    draws = Draws(seed)
    for _ in range(many):
        heaps = 2 + draws.below(2)
        kinds = [made_rule(draws, 1, heaps, 1 + draws.below(3), 2) for _ in range(1 + draws.below(3))]
        things, answerers = 1 + draws.below(4), 1 + draws.below(2)
        roles = [[draws.below(len(kinds)) for _ in range(answerers)] for _ in range(things)]
        rows = []
        for _ in range(2):
            row = (draws.below(answerers), tuple(draws.below(heaps) for _ in range(things)))
            if row not in rows:
                rows.append(row)
        yield Stock(things, answerers, heaps, [Question(*row) for row in rows]), kinds, roles, Wish.of([draws.below(2) for _ in range(things)])


def met_numbers(rule, firsts):
    """Whether stands are numbered as they are met from these ones."""
    met = []
    for stand in firsts:
        if stand not in met:
            met.append(stand)
    for stand in met:
        for entry in rule.rows[stand]:
            if entry is not None and entry not in met:
                met.append(entry)
    return met == list(range(len(rule)))


class Cast(Checks, unittest.TestCase):
    def test_lawful_pasts(self):
        """A past is lawful for a thing exactly if the triples of each answerer are lawful for its kind."""
        many = 0
        for stock, kinds, roles, wish in made_casts(441, 60):
            case = cast(stock, kinds, roles, wish)
            self.assertEqual([case.stock, case.wish, case.answerers], [stock, wish, stock.answerers])
            self.assertTrue(met_numbers(case.rule, case.firsts))
            for past in pasts_to(case.rule, 3 if len(triples_of(case.rule)) < 9 else 2):
                for thing in range(stock.things):
                    wanted = all(is_ok(kinds[kind], 0, [(0, true, told) for asked, true, told in past if asked == who])
                                 for who, kind in enumerate(roles[thing]))
                    many += wanted
                    self.assertIs(is_ok(case.rule, case.firsts[thing], past), wanted)
        self.assertGreater(many, 1000)

    def test_stands_are_unlike(self):
        """Just one stand for each pair of an index and a stand in it, answerer by answerer."""
        kinds = [after_truths(2), at_most(1)]
        stock = Stock(3, 2, 2, [])
        case = cast(stock, kinds, [(0, 1), (1, 0), (0, 1)], Wish.each(3))
        self.assertEqual([case.firsts, len(case.rule)], [(0, 1, 0), 12])
        # Kinds that are equal have stands of their own, and roles that are equal have not.
        self.assertEqual(len(cast(stock, [truthful()] * 2, [(0, 1), (1, 0), (1, 1)], Wish.each(3)).rule), 3)
        self.assertEqual(cast(stock, [truthful()] * 2, [(0, 1), (1, 0), (1, 1)], Wish.each(3)).firsts, (0, 1, 2))
        self.assertEqual(len(cast(stock, kinds, [(1, 1)] * 3, Wish.each(3)).rule), 4)

    def test_same_roles(self):
        """If all things have the same roles, the rule is that of each answerer's own kind."""
        for stock, kinds, roles, wish in made_casts(442, 40):
            case = cast(stock, tuple(kinds), (tuple(roles[0]),) * stock.things, wish)
            self.assertEqual([case.rule, case.firsts], [each_own([kinds[kind] for kind in roles[0]]), (0,) * stock.things])

    def test_whole(self):
        asked = cast(stock=Stock(4, 1, 2, [PLAIN]), kinds=[truthful(), always_false()], roles=[[1], [0], [1], [0]], wish=Wish.left(2))
        self.assertEqual(str(asked), "4 1 2 | 0 0011 ; 1 2 | - 0 0 - | 1 - - 1 ; 0 1 0 1 ; most 2")

    def test_errors(self):
        stock = Stock(2, 2, 2, [])
        self.odd(lambda value: cast(value, None, None, None), lambda value: BadStock("stock"))
        wrong_kinds = [[None], [truthful(), None], [truthful(2)], [truthful(1, 3)], [truthful(), truthful(2)], [truthful(), truthful(1, 3)], truthful(), (truthful(2),)]
        for value in ODD + wrong_kinds:
            self.raises(BadRule("kinds"), cast, stock, value, None, None)
        wrong_roles = [[[0, 1]], [[0, 1]] * 3, [[0, 1], [0]], [[0, 1], [0, 2]], [[0, 1], [0, -1]], [[0, 1], [0, True]], [[0, 1], None], [[0, 1], "01"], [[0, 1], [0, BIG]],
                       [0, 1], [[0, 1, 0], [0, 1]]]
        for value in ODD + wrong_roles:
            self.raises(BadList("roles"), cast, stock, KINDS[:2], value, None)
        for value in ODD:
            self.raises(BadWish("wish"), cast, stock, KINDS[:2], [[0, 1], [1, 0]], value)
        for classes in ([0], [0, 0, 0]):
            self.raises(Unlike("things"), cast, stock, KINDS[:2], [[0, 1], [1, 0]], Wish.of(classes))
            self.raises(Unlike("things"), cast, stock, [at_most(8)], [[0, 0], [0, 0]], Wish.of(classes))
        self.assertEqual(len(cast(stock, [at_most(7)], [[0, 0], [0, 0]], Wish.each(2)).rule), 64)
        self.raises(TooMany("stands", 64), cast, stock, [at_most(7), at_most(8)], [[0, 0], [0, 1]], Wish.each(2))
        self.raises(TooMany("stands", 64), cast, stock, [at_most(8)], [[0, 0], [0, 0]], Wish.left(1))

    def test_not_changed(self):
        kinds, roles = [truthful(), at_most(1)], [[0], [1]]
        case = cast(Stock(2, 1, 2, []), kinds, roles, Wish.each(2))
        kinds.append(None)
        roles[0][0] = 1
        self.assertEqual(case.firsts, (0, 1))


class Doubled(Checks, unittest.TestCase):
    def rules(self, draws):
        answerers, heaps = 1 + draws.below(2), 2 + draws.below(2)
        return [made_rule(draws, answerers, heaps, 1 + draws.below(3), 2) for _ in range(1 + draws.below(3))]

    def test_things(self):
        draws = Draws(443)
        for _ in range(60):
            rules = self.rules(draws)
            things, k = 1 + draws.below(4), len(rules)
            questions = [Question(who, [draws.below(rules[0].heaps) for _ in range(things)]) for who in range(rules[0].answerers)]
            stock = Stock(things, rules[0].answerers, rules[0].heaps, questions)
            wish = Wish.of([draws.below(2) for _ in range(things)])
            case = doubled(stock, rules, wish)
            self.assertEqual([case.things, case.answerers, case.heaps], [things * k, stock.answerers, stock.heaps])
            self.assertTrue(met_numbers(case.rule, case.firsts))
            for x, i in product(range(things), range(k)):
                self.assertEqual([question.heaps[x * k + i] for question in case.stock], [question.heaps[x] for question in questions])
                self.assertEqual(case.wish.classes[x * k + i], wish.classes[x])
                self.assertEqual(case.firsts[x * k + i], i)
                for past in pasts_to(case.rule, 2):
                    self.assertIs(is_ok(case.rule, i, past), is_ok(rules[i], 0, past))

    def test_either(self):
        """Doubled by two rules a case has the depth that it has with either of the two."""
        seen = set()
        draws = Draws(444)
        pairs = [(one, other) for one in KINDS + [one_in(3), after_truths(1)] for other in KINDS] + [tuple(self.two(draws)) for _ in range(25)]
        for one, other in pairs:
            for stock in (Stock.splits(2), Stock.singles(2), Stock(3, 1, 2, [Question(0, [0, 0, 1]), Question(0, [0, 1, 0])])):
                depth = depth_of(doubled(stock, [one, other], Wish.each(stock.things)))
                seen.add(depth)
                self.assertEqual(depth, depth_of(Case.alike(stock, either(one, other), Wish.each(stock.things))))
        self.assertTrue({None, 1, 2, 3, 4} <= seen)

    def two(self, draws):
        return [made_rule(draws, 1, 2, 1 + draws.below(3), 2) for _ in range(2)]

    def test_errors(self):
        stock = Stock(4, 1, 2, [])
        self.odd(lambda value: doubled(value, None, None), lambda value: BadStock("stock"))
        for value in ODD + [[None], [truthful(), 1], [truthful(2)], [truthful(1, 3)], [truthful(), truthful(2)], truthful()]:
            self.raises(BadRule("rules"), doubled, stock, value, None)
        for value in ODD + [Wish.left(1), Wish.left(16)]:
            self.raises(BadWish("wish"), doubled, stock, [truthful()] * 9, value)
        for classes in ([0], [0] * 3, [0] * 8):
            self.raises(Unlike("things"), doubled, stock, [truthful()] * 9, Wish.of(classes))
        self.assertEqual(doubled(stock, [truthful()] * 4, Wish.each(4)).things, 16)
        self.raises(TooMany("things", 16), doubled, stock, [truthful()] * 5, Wish.each(4))
        self.raises(TooMany("things", 16), doubled, stock, [at_most(63)] * 5, Wish.each(4))
        self.assertEqual(len(doubled(stock, [at_most(31)] * 2, Wish.each(4)).rule), 64)
        self.raises(TooMany("stands", 64), doubled, stock, [at_most(31), at_most(32)], Wish.each(4))
        self.assertEqual(str(doubled(stock=Stock(2, 1, 2, [Question(0, [0, 1])]), rules=(truthful(), always_false()), wish=Wish.each(2))),
                         "4 1 2 | 0 0011 ; 1 2 | 0 - - 0 | - 1 1 - ; 0 1 0 1 ; classes 0 0 1 1")


class Through(Checks, unittest.TestCase):
    def test_exchanged(self):
        draws = Draws(445)
        for _ in range(50):
            heaps = [draws.below(2) for _ in range(1 + draws.below(6))]
            liars = [draws.below(len(heaps)) for _ in range(draws.below(5))]
            question = Question(draws.below(4), heaps)
            found = through(question, liars)
            self.assertEqual([found.who, found.heaps], [question.who, tuple(1 - heap if thing in liars else heap for thing, heap in enumerate(heaps))])
            self.assertEqual(through(found, tuple(liars)), question)

    def test_always_lies_for_these(self):
        """What is told of a question put through the lies is what is true of the question itself."""
        draws = Draws(446)
        for _ in range(20):
            roles = [[draws.below(2)] for _ in range(4)]
            liars = [thing for thing, (kind,) in enumerate(roles) if kind == 1]
            case = cast(Stock(4, 1, 2, [through(PLAIN, liars)]), [truthful(), always_false()], roles, BIT)
            self.assertEqual(depth_of(case), 1)
            for thing in range(4):
                told = [told for told in (0, 1) if is_ok(case.rule, case.firsts[thing], [(0, case.stock[0].heaps[thing], told)])]
                self.assertEqual(told, [PLAIN.heaps[thing]])

    def test_errors(self):
        self.odd(lambda value: through(value, None), lambda value: BadQuestion("question"))
        three = Question(0, [0, 1, 2])
        for value in ODD:
            if not isinstance(value, (list, tuple)):
                self.raises(BadList("liars"), through, three, value)
        for value in ODD + [3, -1, BIG]:
            if not (isinstance(value, int) and not isinstance(value, bool) and 0 <= value < 3):
                self.raises(NoThing(value), through, three, [0, 2, value, 9])
        self.raises(Unlike("heaps"), through, three, [])
        self.raises(Unlike("heaps"), through, three, [0])
        self.raises(NoThing(3), through, three, [3])
        self.assertEqual(through(question=Question(3, [0, 1]), liars=()), Question(3, [0, 1]))


if __name__ == "__main__":
    unittest.main()
