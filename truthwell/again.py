"""One question asked again and again: by signs alone."""

from truthwell.papers import Denial
from truthwell.papers import Paper
from truthwell.rule_wants import want_rule_at
from truthwell.shelves import freer_rows
from truthwell.sign_walks import endless_signs
from truthwell.sign_walks import first_signs
from truthwell.sign_walks import most_signs
from truthwell.sign_walks import steps_from
from truthwell.sign_walks import want_even_pair
from truthwell.sign_walks import want_stands
from truthwell.weight_sums import want_answers
from truthwell.ways_on import behind_triple
from truthwell.ways_on import reached


class Again(Paper):
    """The least number of answers that tell two things apart by one question."""

    def __init__(self, number):
        super().__init__("again", number)
        self.number = self.parts[0]


class Contrary(Denial):
    """Signs that are lawful without an end, from the index begin on again and again; their contrary, too."""

    def __init__(self, signs, begin):
        super().__init__("contrary", signs, begin)
        self.signs = self.parts[0]
        self.begin = self.parts[1]


def again(rule, stand, other):
    """An Again for two things at these stands; a Contrary for never."""
    want_stands(rule, stand, other)
    want_even_pair(rule)
    pair = (stand, other)
    steps = steps_from(rule, pair)
    most = most_signs(steps)
    if pair in most:
        return Again(most[pair] + 1)
    signs, begin = endless_signs(steps, most, pair)
    return Contrary(signs, begin)


def contrary_signs(rule, stand, other, answers):
    """The first so many signs that are lawful from stand, their contrary from other; None without any."""
    want_stands(rule, stand, other)
    want_answers(answers, 0)
    want_even_pair(rule)
    steps = steps_from(rule, (stand, other))
    return first_signs(steps, most_signs(steps), (stand, other), answers)


def truth_frees(rule, stand):
    """The first triple (reached stand, who, true) for which truth does not free; None if it does."""
    want_rule_at(rule, stand)
    freer = freer_rows(rule)
    for met in sorted(list(reached(rule, stand))):
        for who in range(rule.answerers):
            for true in range(rule.heaps):
                behind = behind_triple(rule, met, (who, true, true))
                if behind is None or not freer[met][behind]:
                    return met, who, true
    return None
