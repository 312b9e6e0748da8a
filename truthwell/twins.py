"""Things that are alike in a case."""

from truthwell.case_wants import want_case
from truthwell.changed import narrowed
from truthwell.errors import BadCase
from truthwell.lists import choices


def twins(case):
    """All things, in tuples of those that are twins of one another."""
    want_classes(case)
    rows = {}
    for thing in range(case.things):
        rows.setdefault((traits(case, thing), case.wish.classes[thing]), []).append(thing)
    return tuple([tuple(row) for row in rows.values()])


def untwinned(case):
    """The case with the first one of all that are twins of one another."""
    want_classes(case)
    return narrowed(case, [row[0] for row in twins(case)])


def never_told(case):
    """The pairs of things that nothing tells apart, but of unlike classes, ascending."""
    want_classes(case)
    known = [traits(case, thing) for thing in range(case.things)]
    classes = case.wish.classes
    pairs = choices(case.things, 2)
    return tuple([(x, y) for x, y in pairs if known[x] == known[y] and classes[x] != classes[y]])


def traits(case, thing):
    """The heaps of a thing in all questions, and its first stand."""
    return tuple([question.heaps[thing] for question in case.stock.questions]), case.firsts[thing]


def want_classes(case):
    """Raises BadCase for what is no case for classes."""
    want_case(case, "case")
    if case.wish.classes is None:
        raise BadCase("wish")
