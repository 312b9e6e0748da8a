"""Which values show that a list is enough, that it is not, that none is."""

from truthwell.ahead import Enough
from truthwell.ahead import Layers
from truthwell.ahead import Shared
from truthwell.ahead import ShadowRing
from truthwell.case_wants import want_case
from truthwell.case_wants import want_numbers
from truthwell.lawful_hearings import hearings_within
from truthwell.lawful_hearings import mending_table
from truthwell.lists import are_integers
from truthwell.lists import first_outside
from truthwell.lists import want_number
from truthwell.lists import want_number_or_none
from truthwell.mending import left_by
from truthwell.moves import is_done
from truthwell.moves import opened
from truthwell.shadow_sets import InnerShadows
from truthwell.shadow_sets import ShadowSets
from truthwell.shadow_sets import are_shadows


def shows_enough(case, value, most=None):
    """Whether any value is a right Enough of the case, of at most so many questions, None: of any number."""
    want_case(case, "case")
    want_number_or_none(most, 0, None, "most")
    if not isinstance(value, Enough) or not are_within(value.numbers, len(case.stock.questions)):
        return False
    if most is not None and len(value.numbers) > most:
        return False
    return is_right_mending(case, value.numbers, value.table)


def are_within(value, many):
    """Whether a value, as papers keep it, is a list of the integers below many."""
    return isinstance(value, tuple) and first_outside(value, many) is None


def is_right_mending(case, numbers, table):
    """Whether any value is the mending table of a list that is enough."""
    if not isinstance(table, tuple) or not all([is_mending_pair(pair) for pair in table]):
        return False
    rows = hearings_within(case, numbers, len(table))
    if rows is None or mending_table(rows) != table:
        return False
    return all([is_done(case, situation) for hearing, situation in rows])


def is_mending_pair(pair):
    """Whether this is a pair of lists of integers."""
    return isinstance(pair, tuple) and len(pair) == 2 and are_integers(pair[0]) and are_integers(pair[1])


def shows_shared(case, numbers, value):
    """Whether any value is a right Shared for the list."""
    want_case(case, "case")
    want_numbers(case, numbers)
    if not isinstance(value, Shared) or not are_integers(value.group):
        return False
    if value.group not in case.wish.groups(case.things):
        return False
    if not are_within(value.hearing, case.heaps) or len(value.hearing) != len(numbers):
        return False
    left = opened(left_by(case, numbers, value.hearing)[-1])
    return all([thing in left for thing in value.group])


def shows_layers(case, most, value):
    """Whether any value is right Layers of the case for most."""
    want_case(case, "case")
    want_number(most, 0, None, "most")
    if not isinstance(value, Layers) or not isinstance(value.layers, tuple) or len(value.layers) != most + 1:
        return False
    if not all([are_shown(case, layer) for layer in value.layers]):
        return False
    sets = ShadowSets(case)
    layers = [[sets.taken(shadow) for shadow in layer] for layer in value.layers]
    if any([sets.size(shadow) == 0 for layer in layers for shadow in layer]):
        return False
    inner = [inner_of(sets, layer) for layer in layers]
    if not inner[0].lies_within(sets.places_of(sets.first())):
        return False
    return all([is_led_within(case, sets, layer, behind) for layer, behind in zip(layers, inner[1:])])


def shows_shadow_ring(case, value):
    """Whether any value is a right ShadowRing of the case."""
    want_case(case, "case")
    if not isinstance(value, ShadowRing) or not are_shown(case, value.shadows):
        return False
    sets = ShadowSets(case)
    ring = [sets.taken(shadow) for shadow in value.shadows]
    if any([sets.size(shadow) == 0 for shadow in ring]):
        return False
    inner = inner_of(sets, ring)
    return inner.lies_within(sets.places_of(sets.first())) and is_led_within(case, sets, ring, inner)


def are_shown(case, value):
    """Whether a value, as papers keep it, is a list of shadows of the case."""
    return isinstance(value, tuple) and are_shadows(case, value)


def inner_of(sets, shadows):
    """These shadows, by which is found whether one of them lies within another one."""
    inner = InnerShadows()
    for shadow in shadows:
        inner.keep(sets.places_of(shadow))
    return inner


def is_led_within(case, sets, layer, inner):
    """Whether within what is behind each question and each shadow of a layer one of the inner ones lies."""
    for shadow in layer:
        for question in range(len(case.stock.questions)):
            if not inner.lies_within(sets.places_of(sets.behind(shadow, question))):
                return False
    return True
