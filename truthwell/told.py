"""What an evening tells: lies, and which question comes next."""

from truthwell.checks import is_within
from truthwell.errors import BadEvening
from truthwell.errors import Late
from truthwell.errors import Never
from truthwell.errors import NoAsked
from truthwell.errors import Settled
from truthwell.errors import Unheard
from truthwell.evenings import Evening
from truthwell.mending import of_how_many
from truthwell.met import Solved
from truthwell.met import worth_of
from truthwell.moves import OUT
from truthwell.triples import place_of


def want_evening(evening):
    """Raises BadEvening for what is no evening."""
    if not isinstance(evening, Evening):
        raise BadEvening("evening")


def lies(evening, asking):
    """For how many of the open things the answer to an asking is a lie: all, none or some."""
    want_evening(evening)
    asked = {number: question for number, question in evening.asked}
    if not is_within(asking, 0, None) or asking not in asked:
        raise NoAsked(asking)
    heard = {number: told for number, told in evening.heard}
    if asking not in heard:
        raise Unheard(asking)
    heaps = evening.case.stock.questions[asked[asking]].heaps
    return of_how_many([heaps[thing] != heard[asking] for thing in evening.open_things])


def lie_counts(evening):
    """For each thing the least and the greatest number of lies in its lawful pasts that fit; None if it is out."""
    want_evening(evening)
    return tuple([counted_lies(evening.case, thing, evening.log) for thing in range(evening.case.things)])


def counted_lies(case, thing, log):
    """The least and the greatest number of lies in the lawful pasts of a thing that fit a log; None without any."""
    numbers, heard = log
    counts = {case.firsts[thing]: (0, 0)}
    for number, told in zip(numbers, heard):
        question = case.stock.questions[number]
        counts = counts_behind(case.rule, counts, question.who, question.heaps[thing], told)
    if len(counts) == 0:
        return None
    return min([least for least, most in counts.values()]), max([most for least, most in counts.values()])


def counts_behind(rule, counts, who, true, heard):
    """For each stand behind one more answer, None for any, the least and the greatest number of lies on the ways."""
    found = {}
    for stand, (least, most) in counts.items():
        for told in range(rule.heaps):
            behind = rule.rows[stand][place_of(rule.heaps, who, true, told)]
            if behind is not None and heard in (None, told):
                more = 0 if told == true else 1
                known = found.get(behind, (least + more, most + more))
                found[behind] = (min(known[0], least + more), max(known[1], most + more))
    return found


def situation_of(evening):
    """The situation behind an evening in which all is heard; Late if something is not."""
    if evening.unheard:
        raise Late(evening.unheard[0])
    return tuple([stands[0] if stands else OUT for stands in evening.stands])


def questions_left(evening):
    """The least depth at the situation of an evening; None for never."""
    want_evening(evening)
    return Solved(evening.case, situation_of(evening)).depths[0]


def next_question(evening):
    """The least question that leaves no more than the least depth."""
    want_evening(evening)
    situation = situation_of(evening)
    if evening.is_settled:
        raise Settled()
    solved = Solved(evening.case, situation)
    depth = solved.depths[0]
    if depth is None:
        raise Never()
    return [worth_of(solved.depths, behind) for behind in solved.steps[0]].index(depth)
