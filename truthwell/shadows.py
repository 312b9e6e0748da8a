"""Shadows: what groups may still share behind a list of questions that are asked ahead."""

from truthwell.case_wants import want_case
from truthwell.case_wants import want_numbers
from truthwell.case_wants import want_question
from truthwell.errors import BadSituation
from truthwell.papers import fixed
from truthwell.shadow_sets import ShadowSets
from truthwell.shadow_sets import are_shadows
from truthwell.shadow_sets import shadows_along


def first_shadow(case):
    """The shadow of no questions."""
    want_case(case, "case")
    sets = ShadowSets(case)
    return sets.unfolded(shadows_along(sets, [])[0])


def shadow_after(case, shadow, number):
    """The shadow behind a question."""
    want_case(case, "case")
    if not are_shadows(case, [shadow]):
        raise BadSituation("shadow")
    want_question(case, number)
    sets = ShadowSets(case)
    ahead = sets.taken(fixed(shadow))
    sets.want_few(ahead)
    behind = sets.behind(ahead, number)
    sets.want_few(behind)
    return sets.unfolded(behind)


def shadow_behind(case, numbers):
    """The shadow of a list of questions."""
    want_case(case, "case")
    want_numbers(case, numbers)
    sets = ShadowSets(case)
    return sets.unfolded(shadows_along(sets, numbers)[-1])


def is_bare(shadow):
    """Whether no group has a standing."""
    return all([len(standings) == 0 for standings in shadow])


def is_within_shadow(one, other):
    """Whether each group's standings are among its standings in the other shadow."""
    return all([are_among(left, right) for left, right in zip(fixed(one), fixed(other))])


def are_among(some, standings):
    """Whether these standings are among those."""
    table = {standing: True for standing in standings}
    return all([standing in table for standing in some])
