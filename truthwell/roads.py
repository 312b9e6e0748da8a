"""What is open behind a hearing, by pasts alone."""

from truthwell.case_wants import want_case
from truthwell.case_wants import want_hearing
from truthwell.case_wants import want_numbers
from truthwell.moves import answers_on
from truthwell.ways_on import is_let_all


def open_by_pasts(case, numbers, hearing):
    """The things whose past by this hearing is lawful from their first stand, ascending."""
    want_case(case, "case")
    want_numbers(case, numbers)
    want_hearing(case, numbers, hearing)
    pasts = [past_by(case, numbers, hearing, thing) for thing in range(case.things)]
    return tuple([thing for thing, past in enumerate(pasts) if is_let_all(case.rule, case.firsts[thing], past)])


def past_by(case, numbers, hearing, thing):
    """The past of a thing by a hearing of these questions."""
    questions = [case.stock.questions[number] for number in numbers]
    return tuple([(question.who, question.heaps[thing], told) for question, told in zip(questions, hearing)])


def hearings(case, numbers):
    """Yields, ascending, the hearings of these questions that are lawful for some thing."""
    want_case(case, "case")
    want_numbers(case, numbers)
    questions = [case.stock.questions[number] for number in numbers]
    waiting = [((), case.firsts)]
    while waiting:
        hearing, situation = waiting.pop()
        if len(hearing) == len(questions):
            yield hearing
        else:
            # What is put last is taken first: so the least answer comes last.
            answers = answers_on(case, situation, questions[len(hearing)])
            waiting.extend([(hearing + (told,), behind) for told, behind in answers[::-1]])
