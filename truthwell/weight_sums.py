"""Weights of stands and situations, for what was checked before; the rule is even-handed."""

from truthwell.lists import want_number
from truthwell.errors import NotEven
from truthwell.moves import OUT
from truthwell.moves import Mover
from truthwell.triples import place_of

MOST_ANSWERS = 60
MOST_WEIGHED = 12


def want_even(rule):
    """Raises NotEven for a rule that is not even-handed."""
    if not rule.is_even:
        raise NotEven()


def want_answers(answers, least):
    """Raises BadNumber for what is no number of answers, least at least."""
    want_number(answers, least, MOST_ANSWERS, "answers")


def ends_of(rule, stand):
    """The stands behind a truth and behind a lie, None for one that is barred."""
    row = rule.rows[stand]
    return row[place_of(rule.heaps, 0, 0, 0)], row[place_of(rule.heaps, 0, 0, 1)]


def stand_weights(rule, answers):
    """The weight of each stand for so many answers."""
    ends = [ends_of(rule, stand) for stand in range(len(rule.rows))]
    weights = [1] * len(ends)
    for _ in range(answers):
        weights = [weight_at(weights, truth) + (rule.heaps - 1) * weight_at(weights, lie) for truth, lie in ends]
    return weights


def weight_at(weights, stand):
    """The weight of a stand; 0 for one that is barred."""
    return 0 if stand is None else weights[stand]


def situation_weight(case, weights, situation):
    """The weight of a situation, by the weights of the stands."""
    heavy = [(thing, weights[stand]) for thing, stand in enumerate(situation) if stand != OUT]
    if case.wish.classes is None:
        return sum([worth for thing, worth in heavy])
    most = {}
    for thing, worth in heavy:
        told = case.wish.classes[thing]
        most[told] = max(worth, most.get(told, 0))
    return sum(list(most.values()))


def room_for(case, answers):
    """The greatest weight that so many answers can settle."""
    found = 1 if case.wish.classes is not None else case.wish.most
    for _ in range(answers):
        found = found * case.heaps
    return found


def weights_behind(case, weights, mover, situation, number):
    """For each answer to a question the weight of what is behind it, by the weights of the stands."""
    return [situation_weight(case, weights, mover.behind(situation, number, told)) for told in range(case.heaps)]


def parting_well(case, situation, answers):
    """The questions behind each answer to which there is room enough."""
    weights = stand_weights(case.rule, answers - 1)
    most = room_for(case, answers - 1)
    mover = Mover(case)
    return tuple([number for number in range(len(case.stock.questions))
                  if max(weights_behind(case, weights, mover, situation, number)) <= most])


def least_weighed(case):
    """The least number of answers for which there is room for the first situation; None if it is above 12."""
    weighed = [answers for answers in range(MOST_WEIGHED + 1) if not is_heavy(case, case.firsts, answers)]
    return weighed[0] if weighed else None


def is_heavy(case, situation, answers):
    """Whether the weight of a situation is above the room."""
    return situation_weight(case, stand_weights(case.rule, answers), situation) > room_for(case, answers)
