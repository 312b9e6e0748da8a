"""Logs of questions, some of whose answers are not heard yet."""

from truthwell.case_wants import want_case
from truthwell.case_wants import want_numbers
from truthwell.checks import is_within
from truthwell.errors import BadHearing
from truthwell.errors import Heard
from truthwell.errors import NoAsked
from truthwell.errors import NoHeap
from truthwell.errors import NoThing
from truthwell.errors import TooMany
from truthwell.lists import is_list
from truthwell.log_walks import heard_places
from truthwell.log_walks import is_gone
from truthwell.log_walks import stands_at_end
from truthwell.triples import place_of

MOST_UNHEARD = 6


def want_log(case, numbers, heard):
    """For what is no case, no list of questions, no list of what is heard of these, their errors."""
    want_case(case, "case")
    want_numbers(case, numbers)
    if not is_list(heard) or len(heard) != len(numbers):
        raise BadHearing("heard")
    for told in heard:
        if told is not None and not is_within(told, 0, case.heaps - 1):
            raise NoHeap(told)


def stands_left(case, numbers, heard):
    """For each thing the stands behind its pasts that fit the log, ascending."""
    want_log(case, numbers, heard)
    return stands_at_end(case, numbers, heard)


def is_broken(case, numbers, heard):
    """Whether nothing is open behind the log."""
    want_log(case, numbers, heard)
    return is_gone(stands_at_end(case, numbers, heard))


def can_hear(case, numbers, heard, place):
    """The heaps that can be told at an unheard place, ascending."""
    want_log(case, numbers, heard)
    if not is_within(place, 0, len(heard) - 1):
        raise NoAsked(place)
    if heard[place] is not None:
        raise Heard(place)
    ahead = list(heard[:place])
    behind = list(heard[place + 1:])
    return tuple([told for told in range(case.heaps)
                  if not is_gone(stands_at_end(case, numbers, ahead + [told] + behind))])


def pasts_left(case, numbers, heard, thing):
    """Yields, ascending, the lawful pasts of a thing that fit the log."""
    want_log(case, numbers, heard)
    if not is_within(thing, 0, case.things - 1):
        raise NoThing(thing)
    if len(heard) - len(heard_places(heard)) > MOST_UNHEARD:
        raise TooMany("unheard", MOST_UNHEARD)
    questions = [case.stock.questions[number] for number in numbers]
    asked = [(question.who, question.heaps[thing], told) for question, told in zip(questions, heard)]
    waiting = [((), case.firsts[thing])]
    while waiting:
        past, stand = waiting.pop()
        if len(past) == len(asked):
            yield past
        else:
            # What is put last is taken first: so the least told heap comes last.
            waiting.extend(fitting(case.rule, past, stand, asked[len(past)])[::-1])


def fitting(rule, past, stand, answer):
    """The past, which leads to this stand, with each answer more that is let and fits, and where it leads then."""
    who, true, heard = answer
    longer = []
    for told in range(rule.heaps):
        behind = rule.rows[stand][place_of(rule.heaps, who, true, told)]
        if behind is not None and heard in (None, told):
            longer.append((past + ((who, true, told),), behind))
    return longer
