"""Sets and properties that grow: the least sets that have one, the greatest that lack it."""

from truthwell.checks import is_integer
from truthwell.lists import are_integers
from truthwell.lists import choices


def all_sets(items):
    """All ascending tuples of some of these ascending items: those of fewer first, then as tuples are compared."""
    return [tuple([items[at] for at in chosen]) for size in range(len(items) + 1)
            for chosen in choices(len(items), size)]


def is_inside(one, other):
    """Whether all items of a set are in the other one."""
    return all([item in other for item in one])


def parted_sets(sets, paper_of, has_paper):
    """The pairs (set, paper) of the least sets that have a property, and those of the sets that lack it.

    By what paper_of tells of a set, a paper or None, the property is known: to have a paper, or to have
    none. Sets with a least one within are left out.
    """
    least = []
    short = []
    for some in sets:
        if not any([is_inside(other, some) for other, _ in least]):
            paper = paper_of(some)
            if (paper is not None) == has_paper:
                least.append((some, paper))
            else:
                short.append((some, paper))
    return least, short


def greatest_pairs(pairs):
    """Of pairs (set, paper) those whose set lies within no other one."""
    sets = [some for some, _ in pairs]
    return [(some, paper) for some, paper in pairs
            if not any([is_inside(some, other) and some != other for other in sets])]


def quickly_parted(sets, paper_of):
    """The pairs (set, paper) of the least sets that have a paper, and the greatest sets that have none.

    What has one is told of no more sets than are needed: it grows, and with a set each set within is told, too.
    """
    known = {}
    least = []
    greatest = []
    for some in sets:
        if not any([is_inside(other, some) for other, _ in least] + [is_inside(some, other) for other in greatest]):
            if paper_known(known, paper_of, some) is None:
                greatest.append(greatest_around(sets, some, known, paper_of))
            else:
                least.append((some, known[some]))
    return least, [some for some in sets if some in greatest]


def greatest_around(sets, some, known, paper_of):
    """A greatest set that has no paper, in which this one lies that has none: found item by item."""
    found = some
    for other in sets:
        if len(other) == len(found) + 1 and is_inside(found, other) and paper_known(known, paper_of, other) is None:
            found = other
    return found


def paper_known(known, paper_of, some):
    """The paper of a set, None for none; it is asked for once."""
    if some not in known:
        known[some] = paper_of(some)
    return known[some]


def is_told_set(value):
    """Whether a value, as papers keep it, is a list of integers, and of lists of integers."""
    return isinstance(value, tuple) and all([is_integer(item) or are_integers(item) for item in value])


def are_pairs_of(sets, value):
    """Whether a value, as papers keep it, is a list of pairs of these sets and whatever, in the order of these, of
    which none lies within another one."""
    if not isinstance(value, tuple) or not all([isinstance(pair, tuple) and len(pair) == 2 for pair in value]):
        return False
    numbers = {some: number for number, some in enumerate(sets)}
    told = [pair[0] for pair in value]
    if not all([is_told_set(some) and some in numbers for some in told]):
        return False
    if not all([numbers[one] < numbers[two] for one, two in zip(told, told[1:])]):
        return False
    return not any([is_inside(one, two) for two in told for one in told if one != two])


def are_all_told(sets, least, short):
    """Whether each of these sets has one of the least within, or lies within one of the short ones."""
    return all([any([is_inside(one, some) for one, _ in least]) or any([is_inside(some, one) for one, _ in short])
                for some in sets])
