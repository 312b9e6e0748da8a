"""Spellings: the heaps of things along a list of questions."""

from truthwell.case_wants import want_case
from truthwell.case_wants import want_numbers
from truthwell.errors import BadCase


def spellings(case, numbers):
    """For each thing its heaps along the list."""
    want_case(case, "case")
    want_numbers(case, numbers)
    return tuple([spelling(case, numbers, thing) for thing in range(case.things)])


def spelling(case, numbers, thing):
    """The heaps of a thing along the list."""
    return tuple([case.stock.questions[number].heaps[thing] for number in numbers])


def parted_at(case, numbers):
    """The pairs of a group and of how many places of the list part its two things."""
    want_case(case, "case")
    want_numbers(case, numbers)
    if case.wish.classes is None and case.wish.most > 1:
        raise BadCase("wish")
    spelled = [spelling(case, numbers, thing) for thing in range(case.things)]
    return tuple([(group, unlike_places(spelled[group[0]], spelled[group[1]]))
                  for group in case.wish.groups(case.things)])


def unlike_places(one, other):
    """At how many places two spellings differ."""
    return sum([1 for left, right in zip(one, other) if left != right])
