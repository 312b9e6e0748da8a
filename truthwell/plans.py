"""Plans: which question is asked at which situation."""

from truthwell.case_wants import want_case
from truthwell.errors import BadPlan
from truthwell.lists import want_number
from truthwell.moves import answers_on
from truthwell.papers import Paper
from truthwell.plan_rows import asked_by
from truthwell.plan_rows import is_right_table


class Plan(Paper):
    """A table of rows (situation, rank, number)."""

    def __init__(self, table):
        super().__init__("plan", table)
        self.table = self.parts[0]


def want_plan(case, plan):
    """Raises BadPlan for what is no right Plan of the case."""
    if not isinstance(plan, Plan) or not is_right_table(case, plan.table):
        raise BadPlan("plan")


def ways(case, plan):
    """Yields, ascending by the hearings, for each end of the plan the numbers, the hearing, the situation."""
    want_case(case, "case")
    want_plan(case, plan)
    asked = asked_by(plan.table)
    waiting = [((), (), case.firsts)]
    while waiting:
        numbers, hearing, situation = waiting.pop()
        number = asked[situation]
        if number is None:
            yield numbers, hearing, situation
        else:
            # What is put last is taken first: so the least answer comes last.
            answers = answers_on(case, situation, case.stock.questions[number])
            waiting.extend([(numbers + (number,), hearing + (told,), behind) for told, behind in answers[::-1]])


def stopped(case, plan, most):
    """The situations to which the plan leads by just so many answers, and its ends by fewer."""
    want_case(case, "case")
    want_plan(case, plan)
    want_number(most, 0, None, "most")
    asked = asked_by(plan.table)
    ends = []
    level = [case.firsts]
    answers = 0
    # A plan ends, so this does too, however great most is.
    while answers < most and level:
        ends.extend([situation for situation in level if asked[situation] is None])
        level = level_behind(case, asked, level)
        answers += 1
    return tuple(sorted({situation: True for situation in ends + level}))


def level_behind(case, asked, level):
    """What is behind the questions that are asked at some situations, each once."""
    questions = case.stock.questions
    found = {}
    for situation in level:
        if asked[situation] is not None:
            for told, behind in answers_on(case, situation, questions[asked[situation]]):
                found[behind] = True
    return list(found)
