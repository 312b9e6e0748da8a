"""What a hearing of a list tells: what is left, and which answers were lies."""

from truthwell.case_wants import want_case
from truthwell.case_wants import want_hearing
from truthwell.case_wants import want_numbers
from truthwell.checks import is_within
from truthwell.errors import Barred
from truthwell.errors import BadCase
from truthwell.errors import NoThing
from truthwell.moves import Mover
from truthwell.moves import is_open
from truthwell.moves import opened


def want_heard(case, numbers, hearing):
    """For what is no case, list of questions of it, or hearing of these, their errors."""
    want_case(case, "case")
    want_numbers(case, numbers)
    want_hearing(case, numbers, hearing)


def left_by(case, numbers, hearing):
    """What is left behind a hearing, place by place: the situations, from the first one on."""
    mover = Mover(case)
    found = [case.firsts]
    for number, told in zip(numbers, hearing):
        found.append(mover.behind(found[-1], number, told))
    return found


def mended(case, numbers, hearing):
    """The things for which the hearing is lawful, ascending."""
    want_heard(case, numbers, hearing)
    return tuple(opened(left_by(case, numbers, hearing)[-1]))


def class_told(case, numbers, hearing):
    """The class of the things for which the hearing is lawful; None without any, or of unlike classes."""
    want_heard(case, numbers, hearing)
    if case.wish.classes is None:
        raise BadCase("wish")
    things = opened(left_by(case, numbers, hearing)[-1])
    classes = [case.wish.classes[thing] for thing in things]
    return classes[0] if len(set(classes)) == 1 else None


def lies_in(case, numbers, hearing, thing):
    """The places at which a lie was told for this thing; None if the hearing is not lawful for it."""
    want_heard(case, numbers, hearing)
    if not is_within(thing, 0, case.things - 1):
        raise NoThing(thing)
    if thing not in opened(left_by(case, numbers, hearing)[-1]):
        return None
    return tuple([place for place, is_lie in enumerate(lies_of(case, numbers, hearing, thing)) if is_lie])


def lies_of(case, numbers, hearing, thing):
    """Place by place, whether another heap was told than the thing's."""
    questions = [case.stock.questions[number] for number in numbers]
    return [told != question.heaps[thing] for question, told in zip(questions, hearing)]


def lies_told(case, numbers, hearing):
    """For each place of how many of the things for which the hearing is lawful a lie was told there."""
    want_heard(case, numbers, hearing)
    left = left_by(case, numbers, hearing)
    things = opened(left[-1])
    if not things:
        raise Barred([is_open(situation) for situation in left].index(False) - 1)
    rows = [lies_of(case, numbers, hearing, thing) for thing in things]
    return tuple([of_how_many([row[place] for row in rows]) for place in range(len(numbers))])


def of_how_many(lies):
    """All, none or some, as these tell it."""
    if all(lies):
        return "all"
    return "some" if any(lies) else "none"
