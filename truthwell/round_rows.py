"""The rows of plans, books and rings of rounds, by the least costs."""


def round_plan_rows(told, rounds):
    """The rows of a plan of at most so many rounds, and of the least cost, where the first situation has one."""
    rows = {}
    waiting = [(0, told.level(rounds))]
    while waiting:
        number, level = waiting.pop()
        level = fewest_rounds(told, number, level)
        if (number, level) not in rows:
            numbers, ends = round_at(told, number, level)
            rows[(number, level)] = numbers
            waiting.extend([(end, level - 1) for end in ends])
    return sorted([(told.sky.situations[number], level, told.costs[level][number], tuple(numbers))
                   for (number, level), numbers in rows.items()])


def fewest_rounds(told, number, level):
    """The fewest rounds with which a situation costs no more than with so many."""
    return [costs[number] for costs in told.costs].index(told.costs[level][number])


def round_at(told, number, level):
    """The questions of the first one of so many rounds at a situation, and the situations behind them; of no
    rounds there are none."""
    if level == 0:
        return [], []
    sky = told.sky
    cloud = sky.places[(number,)]
    left = told.costs[level][number]
    numbers = []
    while not is_cheap(told, cloud, level - 1, left):
        left -= 1
        turns = sky.turns[cloud]
        numbers.append([told.of_clouds[level][behind] for behind in turns].index(left))
        cloud = turns[numbers[-1]]
    return numbers, sky.clouds[cloud]


def is_cheap(told, cloud, level, left):
    """Whether so many rounds cost no more than what is left, at each situation of a cloud."""
    costs = [told.costs[level][number] for number in told.sky.clouds[cloud]]
    return None not in costs and max(costs) <= left


def round_book_rows(told, rounds, most):
    """The rows of a book for so many rounds and questions, where the first situation costs more."""
    held = held_out(told, rounds, most)
    return sorted([(unfolded(told.sky, cloud), rounds_told(told, level, rounds), questions)
                   for (cloud, level), questions in held.items()])


def round_ring_rows(told, rounds):
    """The rows of a ring for so many rounds, with which the first situation is never settled.

    What is reached from what is never is so, too: so it does not matter how many questions are told.
    """
    return [(cloud, level) for cloud, level, questions in round_book_rows(told, rounds, 1)]


def unfolded(sky, cloud):
    """The situations of a cloud, ascending."""
    return tuple(sorted([sky.situations[number] for number in sky.clouds[cloud]]))


def rounds_told(told, level, rounds):
    """The number of rounds for which a row stands: the greatest level stands for all that are told."""
    return rounds if level == told.level(rounds) else level


def held_out(told, rounds, most):
    """For clouds, each with a number of rounds, as far as they are needed from the first situation alone on: how
    many questions are too few, the most of them, but not more than are told."""
    held = {}
    waiting = [(told.sky.places[(0,)], told.level(rounds))]
    while waiting:
        cloud, level = waiting.pop()
        if (cloud, level) not in held:
            cost = told.of_clouds[level][cloud]
            questions = most if cost is None else min(cost - 1, most)
            held[(cloud, level)] = questions
            if rounds_told(told, level, rounds) > 1:
                waiting.append(end_that_costs(told, cloud, level, cost))
            if questions > 0:
                waiting.extend([(behind, level) for behind in told.sky.turns[cloud]])
    return held


def end_that_costs(told, cloud, level, cost):
    """A situation of a cloud at which the round may end, as it costs as much, alone, with as many rounds, or
    at least with one less: its cloud, and this number of rounds."""
    ends = [(number, lesser) for lesser in (level, level - 1) for number in told.sky.clouds[cloud]
            if is_as_much(told.costs[lesser][number], cost)]
    number, lesser = ends[0]
    return told.sky.places[(number,)], lesser


def is_as_much(one, other):
    """Whether a cost is at least another one; None, for never, is greater than all."""
    return one is None or (other is not None and one >= other)
