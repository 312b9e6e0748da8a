"""Whether any values are the tables of right plans, books and rings of rounds."""

from truthwell.case_wants import is_situation
from truthwell.checks import is_within
from truthwell.lists import first_outside
from truthwell.moves import Mover
from truthwell.moves import is_done
from truthwell.shadow_sets import are_all_in


def are_unlike(rows):
    """Whether none of these rows stands twice."""
    return len({row: True for row in rows}) == len(rows)


def is_told_situation(case, value):
    """Whether a value, as papers keep it, is a situation of the case."""
    return isinstance(value, tuple) and is_situation(case, value)


def is_right_round_plan(case, table, rounds, most):
    """Whether this is the table of a plan that is right for so many rounds and questions."""
    if not isinstance(table, tuple) or not all([is_plan_row(case, row) for row in table]) or not are_unlike(table):
        return False
    known = {}
    for row in table:
        known.setdefault(row[0], []).append((row[1], row[2]))
    if not has_less(known.get(case.firsts, []), rounds + 1, most):
        return False
    mover = Mover(case)
    return all([leads_to_less(case, mover, row, known) for row in table])


def is_plan_row(case, row):
    """Whether this is a situation, two integers from 0 on, and a list of questions."""
    if not isinstance(row, tuple) or len(row) != 4 or not is_told_situation(case, row[0]):
        return False
    if not is_within(row[1], 0, None) or not is_within(row[2], 0, None):
        return False
    return isinstance(row[3], tuple) and first_outside(row[3], len(case.stock.questions)) is None


def has_less(pairs, rounds, cost):
    """Whether one of these pairs has fewer rounds, and at most this cost."""
    return any([one < rounds and other <= cost for one, other in pairs])


def leads_to_less(case, mover, row, known):
    """Whether a row asks just if its situation is not settled, and has rounds and questions enough for all that may
    stand behind this round."""
    situation, rounds, cost, numbers = row
    if is_done(case, situation):
        return len(numbers) == 0
    if len(numbers) == 0:
        return False
    ends = [situation]
    for number in numbers:
        ends = list({behind: True for end in ends for told, behind in mover.answers(end, number)})
    return all([has_less(known.get(end, []), rounds, cost - len(numbers)) for end in ends])


def is_right_round_book(case, table, rounds, most):
    """Whether this is the table of a book that is right for so many rounds and questions."""
    if not isinstance(table, tuple) or not all([is_book_row(case, row) for row in table]) or not are_unlike(table):
        return False
    return is_held(case, table, rounds, most)


def is_book_row(case, row):
    """Whether this is a cloud, an integer from 1 on, and one from 0 on."""
    if not isinstance(row, tuple) or len(row) != 3 or not is_told_cloud(case, row[0]):
        return False
    return is_within(row[1], 1, None) and is_within(row[2], 0, None)


def is_told_cloud(case, value):
    """Whether this is an ascending list of one or more situations, each once."""
    if not isinstance(value, tuple) or len(value) == 0:
        return False
    if not all([is_told_situation(case, situation) for situation in value]):
        return False
    return all([one < two for one, two in zip(value, value[1:])])


def is_right_round_ring(case, table, rounds):
    """Whether this is the table of a ring that is right for so many rounds."""
    if not isinstance(table, tuple) or not all([isinstance(row, tuple) and len(row) == 2 for row in table]):
        return False
    # One question for each row makes just this of what is told of books: each one leads on.
    rows = [row + (1,) for row in table]
    return all([is_book_row(case, row) for row in rows]) and are_unlike(rows) and is_held(case, rows, rounds, 1)


def is_held(case, rows, rounds, most):
    """Whether these rows hold out in each of them, and are for so many rounds and questions at first."""
    held = HeldClouds(case, rows)
    if not held.has((case.firsts,), rounds, most):
        return False
    return all([held.may_end(row) and held.goes_on(row) for row in rows])


class HeldClouds:
    """The rows of a book of rounds, by which is looked up whether within a cloud one of them lies."""

    def __init__(self, case, rows):
        self.case = case
        self.mover = Mover(case)
        self.many = len(case.stock.questions)
        known = {}
        for cloud, rounds, questions in rows:
            known.setdefault(cloud, []).append((rounds, questions))
        # A cloud lies within another one only if its last situation is there: so it is kept at this.
        ends = {}
        for cloud in list(known):
            ends.setdefault(cloud[-1], []).append(cloud)
        self.known = known
        self.ends = ends
        self.turns = {}

    def has(self, cloud, rounds, questions):
        """Whether some row has this cloud, so many rounds or more, and so many questions or more."""
        return any([one >= rounds and other >= questions for one, other in self.known.get(cloud, [])])

    def has_within(self, cloud, rounds, questions):
        """Whether some row has a cloud within this one, so many rounds or more, and so many questions or more."""
        if self.has(cloud, rounds, questions):
            return True
        table = {situation: True for situation in cloud}
        for situation in cloud:
            for inner in self.ends.get(situation, []):
                if self.has(inner, rounds, questions) and are_all_in(inner, table):
                    return True
        return False

    def may_end(self, row):
        """Whether the round may end at a situation of a row's cloud that is not settled, with a round less."""
        cloud, rounds, questions = row
        ends = [situation for situation in cloud if not is_done(self.case, situation)]
        if rounds == 1:
            return len(ends) > 0
        return any([self.has((situation,), rounds - 1, questions) for situation in ends])

    def goes_on(self, row):
        """Whether each question leads on, with a question less, if the row has any."""
        cloud, rounds, questions = row
        if questions == 0:
            return True
        return all([self.has_within(self.turned(cloud, number), rounds, questions - 1) for number in range(self.many)])

    def turned(self, cloud, number):
        """What a question turns a cloud into; a list that may be empty, as nothing may be open."""
        key = (cloud, number)
        if key not in self.turns:
            self.turns[key] = tuple(sorted({behind for situation in cloud
                                            for told, behind in self.mover.answers(situation, number)}))
        return self.turns[key]
