"""Plain searches for the pasts that fit a log, to compare the program with."""

from itertools import product

from helpers import end_of
from plain import groups_of


def fitting_pasts(case, numbers, heard, thing):
    """All pasts of a thing that fit a log, ascending."""
    told = [range(case.heaps) if heap is None else [heap] for heap in heard]
    questions = [case.stock.questions[number] for number in numbers]
    return [tuple((question.who, question.heaps[thing], heap) for question, heap in zip(questions, row)) for row in product(*told)]


def lawful_fitting(case, numbers, heard, thing):
    """Those that are lawful from its first stand, each with the stand behind it."""
    pasts = [(past, end_of(case.rule, case.firsts[thing], past)) for past in fitting_pasts(case, numbers, heard, thing)]
    return [(past, end) for past, end in pasts if end is not None]


def log_stands(case, numbers, heard):
    return tuple(tuple(sorted({end for past, end in lawful_fitting(case, numbers, heard, x)})) for x in range(case.things))


def log_open(case, numbers, heard):
    return tuple(x for x, stands in enumerate(log_stands(case, numbers, heard)) if stands)


def log_broken(case, numbers, heard):
    return log_open(case, numbers, heard) == ()


def log_settled(case, numbers, heard):
    left = log_open(case, numbers, heard)
    return not any(set(group) <= set(left) for group in groups_of(case))


def cut_with(heard, places):
    """What is heard at these places alone."""
    return [heap if place in places else None for place, heap in enumerate(heard)]


class PlainEvening:
    """The deeds of an evening, all told anew each time."""

    def __init__(self, case):
        self.case = case
        self.rows = []
        self.many = 0

    def refused(self, deed):
        """Whether a deed that fits is refused; otherwise it is done."""
        rows = [list(row) for row in self.rows]
        places = {row[0]: place for place, row in enumerate(rows)}
        if deed[0] == "ask":
            if deed[1] >= len(self.case.stock.questions):
                return True
            rows.append([self.many, deed[1], None])
            self.many += 1
        else:
            if deed[1] not in places:
                return True
            row = rows[places[deed[1]]]
            if deed[0] == "hear":
                if deed[2] >= self.case.heaps or row[2] is not None:
                    return True
                row[2] = deed[2]
            elif deed[0] == "unhear":
                if row[2] is None:
                    return True
                row[2] = None
            else:
                rows.remove(row)
            if log_broken(self.case, [row[1] for row in rows], [row[2] for row in rows]):
                return True
        self.rows = [tuple(row) for row in rows]
        return False

    def log(self):
        return tuple(row[1] for row in self.rows), tuple(row[2] for row in self.rows)


def told_anew(case, deeds):
    """The plain evening behind these deeds, none of which is refused."""
    evening = PlainEvening(case)
    for deed in deeds:
        assert not evening.refused(deed)
    return evening
