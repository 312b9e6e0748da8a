"""Lists of questions that are all asked before anything is heard."""

from truthwell.case_wants import want_case
from truthwell.case_wants import want_numbers
from truthwell.errors import TooMany
from truthwell.lawful_hearings import hearings_within
from truthwell.lawful_hearings import mending_table
from truthwell.lists import want_number
from truthwell.papers import Denial
from truthwell.papers import Paper
from truthwell.shadow_sets import ShadowSets
from truthwell.shadow_sets import least_shadows
from truthwell.shadow_sets import shadows_along
from truthwell.shadow_sets import shadows_met

MOST_AHEAD = 9
MOST_HEARINGS = 1024


class Enough(Paper):
    """A list that is enough, and its mending table: pairs (hearing, open things)."""

    def __init__(self, numbers, table):
        super().__init__("enough", numbers, table)
        self.numbers = self.parts[0]
        self.table = self.parts[1]


class Shared(Denial):
    """A group that shares a hearing of a list."""

    def __init__(self, group, hearing):
        super().__init__("shared", group, hearing)
        self.group = self.parts[0]
        self.hearing = self.parts[1]


class Layers(Denial):
    """Tuples of shadows, which show that no list of so many questions is enough."""

    def __init__(self, layers):
        super().__init__("layers", layers)
        self.layers = self.parts[0]


class ShadowRing(Denial):
    """Shadows which show that no list whatever is enough."""

    def __init__(self, shadows):
        super().__init__("shadowring", shadows)
        self.shadows = self.parts[0]


def ahead(case, numbers):
    """An Enough if the list is enough; otherwise a Shared."""
    want_case(case, "case")
    want_numbers(case, numbers)
    sets = ShadowSets(case)
    along = shadows_along(sets, numbers)
    sharing = [at for at, number in enumerate(along[-1]) if sets.standings_of(number)]
    if not sharing:
        return enough_of(case, numbers)
    at = sharing[0]
    return Shared(sets.all_groups[at], least_shared(sets, at, along, numbers))


def enough_of(case, numbers):
    """The Enough of a list that is enough."""
    rows = hearings_within(case, numbers, MOST_HEARINGS)
    if rows is None:
        raise TooMany("hearings", MOST_HEARINGS)
    return Enough(numbers, mending_table(rows))


def least_shared(sets, at, along, numbers):
    """The least hearing of a list that a group shares."""
    shared = shared_on(sets, at, along, numbers)
    standing = sets.standings_of(along[0][at])[0]
    hearing = []
    for place in range(len(numbers)):
        told, standing = shared[place][standing]
        hearing.append(told)
    return hearing


def shared_on(sets, at, along, numbers):
    """For each place of a list, for each standing of a group there from which a hearing of all that comes
    is shared, the least answer by which this goes on, and the standing behind it."""
    shared = []
    goes_on = {standing: True for standing in sets.standings_of(along[-1][at])}
    for place in range(len(numbers) - 1, -1, -1):
        found = {}
        for standing in sets.standings_of(along[place][at]):
            behind = [(told, sets.standing_behind(at, standing, numbers[place], told)) for told in range(sets.heaps)]
            answers = [pair for pair in behind if pair[1] in goes_on]
            if answers:
                found[standing] = answers[0]
        shared.append(found)
        goes_on = found
    return shared[::-1]


def fewest_ahead(case, most):
    """The Enough of the fewest questions, of several the least list, if at most so many are enough;
    otherwise the Layers for most."""
    want_case(case, "case")
    want_number(most, 0, MOST_AHEAD, "most")
    sets = ShadowSets(case)
    met, numbers = shadows_met(sets, len(case.stock.questions), most)
    if numbers is not None:
        return enough_of(case, numbers)
    layers = [[met[0]]]
    for _ in range(most):
        layers.append(layer_behind(sets, len(case.stock.questions), layers[-1]))
    return Layers([[sets.unfolded(shadow) for shadow in layer] for layer in layers])


def layer_behind(sets, questions, layer):
    """Of what comes by a question from these shadows that within which no other one of it lies."""
    found = {sets.behind(shadow, question): True for shadow in layer for question in range(questions)}
    return least_shadows(sets, list(found))


def never_ahead(case):
    """The ShadowRing, if no list whatever is enough; otherwise None."""
    want_case(case, "case")
    sets = ShadowSets(case)
    met, numbers = shadows_met(sets, len(case.stock.questions), None)
    if numbers is not None:
        return None
    return ShadowRing([sets.unfolded(shadow) for shadow in least_shadows(sets, met)])
