"""Books made layer by layer: from each situation to those behind its answers."""

from truthwell.entries import Held
from truthwell.entries import want_layer
from truthwell.moves import OUT
from truthwell.moves import Mover
from truthwell.shelves import freer_rows
from truthwell.shelves import least_free_of


def led_layers(begin, state, most, answers_at, thinned):
    """The layers of a book for so many questions, from this first situation on.

    Each situation has a state, whatever tells more about it than the layer shows. answers_at tells
    by a situation, its state and the number of questions that are left, for each question, the
    answer, what is behind it, and the state of that. thinned tells which situations of an
    ascending list the layer keeps.
    """
    layers = []
    level = {begin: state}
    for rest in range(most, -1, -1):
        kept = thinned(sorted(level))
        want_layer(kept)
        answered = [answers_at(situation, level[situation], rest) if rest > 0 else [] for situation in kept]
        layers.append([(situation, tuple([told for told, behind, after in row]))
                       for situation, row in zip(kept, answered)])
        level = {}
        for row in answered:
            for told, behind, after in row:
                level.setdefault(behind, after)
    return layers


def all_kept(situations):
    """All of these situations."""
    return situations


class Side:
    """A case that is answered as a right book of it tells; when that has no questions left, so that one
    thing stays open.

    A state of it is a pair (rest, situation): so many questions the book has left, -1 where it was
    asked one more than it has.
    """

    def __init__(self, case, layers):
        freer = freer_rows(case.rule)
        self.mover = Mover(case)
        self.many = len(case.stock.questions)
        self.firsts = case.firsts
        self.layers = [Held(freer, least_entries(freer, layer)) for layer in layers]

    def begun(self):
        """The first state."""
        return len(self.layers) - 1, self.layers[0].first_for(self.firsts)

    def step(self, state, number):
        """The answer to a question, and the state behind it."""
        rest, situation = state
        if rest < 1:
            told, behind = self.mover.answers(situation, number)[0]
            return told, (-1, first_alone(behind))
        at = len(self.layers) - 1 - rest
        told = self.layers[at].told[situation][number]
        behind = self.mover.behind(situation, number, told)
        return told, (rest - 1, self.layers[at + 1].first_for(behind))


def least_entries(freer, entries):
    """Of some entries those than whose situation no other one is less free: these stand for all."""
    answers = {situation: told for situation, told in entries}
    return [(situation, answers[situation]) for situation in least_free_of(freer, list(answers))]


def first_alone(situation):
    """The situation with its first open thing alone."""
    first = [thing for thing, stand in enumerate(situation) if stand != OUT][0]
    return tuple([stand if thing == first else OUT for thing, stand in enumerate(situation)])


def carried_layers(side, other):
    """The layers of a right book of another case, in which more may be told than in that of the side."""
    mover = Mover(other)
    freer = freer_rows(other.rule)

    def answers_at(situation, state, rest):
        """The answers of the side, and what is behind them in the other case."""
        steps = [side.step(state, number) for number in range(side.many)]
        return [(told, mover.behind(situation, number, told), after)
                for number, (told, after) in enumerate(steps)]

    begin = side.begun()
    return led_layers(other.firsts, begin, begin[0], answers_at, lambda found: least_free_of(freer, found))


def layers_of_two(one, other, joined, many):
    """The layers of a right book of two cases asked as one, the other one's rule with so many stands.

    As long as both sides have questions left, or one side one too many, something of both is open, and
    one of the two is not settled: so together they bear one question more than both books.
    """
    freer = freer_rows(joined.rule)

    def answers_at(situation, state, rest):
        """Each question is answered by the side that it belongs to; the other side stays."""
        left, right = state
        ours = [one.step(left, number) for number in range(one.many)]
        theirs = [other.step(right, number) for number in range(other.many)]
        pairs = [(told, (after, right)) for told, after in ours] + [(told, (left, after)) for told, after in theirs]
        return [(told, situation_of_two(after, many), after) for told, after in pairs]

    begin = (one.begun(), other.begun())
    most = begin[0][0] + begin[1][0] + 1
    return led_layers(joined.firsts, begin, most, answers_at, lambda found: least_free_of(freer, found))


def situation_of_two(state, many):
    """The situation of both cases asked as one, by the states of both sides."""
    left, right = state
    return tuple([OUT if s == OUT or t == OUT else s * many + t for s in left[1] for t in right[1]])
