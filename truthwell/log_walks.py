"""Logs, which tell what was asked, and what was heard of it by now: for what was checked before."""

from truthwell.triples import place_of


def begun_stands(case):
    """For each thing its stands ahead of the first asking."""
    return tuple([(stand,) for stand in case.firsts])


def stands_behind(case, left, number, told):
    """For each thing its stands behind an asking, by those ahead of it; told is None for any answer."""
    question = case.stock.questions[number]
    return tuple([stands_on(case.rule, stands, question.who, true, told)
                  for stands, true in zip(left, question.heaps)])


def stands_on(rule, stands, who, true, told):
    """The stands behind one of some stands and an answer, None for any answer; ascending."""
    heaps = list(range(rule.heaps)) if told is None else [told]
    places = [place_of(rule.heaps, who, true, heap) for heap in heaps]
    found = {rule.rows[stand][place]: True for stand in stands for place in places}
    return tuple(sorted([stand for stand in found if stand is not None]))


def stands_along(case, numbers, heard):
    """What is left of each thing ahead of the first place of a log, and behind each of its places."""
    found = [begun_stands(case)]
    for number, told in zip(numbers, heard):
        found.append(stands_behind(case, found[-1], number, told))
    return found


def stands_at_end(case, numbers, heard):
    """What is left of each thing behind a log."""
    return stands_along(case, numbers, heard)[-1]


def things_left(left):
    """The things that are open, ascending."""
    return tuple([thing for thing, stands in enumerate(left) if stands])


def is_gone(left):
    """Whether nothing is open."""
    return len(things_left(left)) == 0


def heard_places(heard):
    """The places that are heard, ascending."""
    return [place for place, told in enumerate(heard) if told is not None]


def heard_at(heard, places):
    """What is heard at these places, None elsewhere."""
    return [told if place in places else None for place, told in enumerate(heard)]
