"""Lists and tuples, told for one another, of integers and of integers in lists."""

from truthwell.checks import is_integer
from truthwell.checks import is_within
from truthwell.errors import BadNumber


def is_list(value):
    """Whether a value is a list or a tuple."""
    return isinstance(value, (list, tuple))


def are_integers(value):
    """Whether a value is a list of integers."""
    return is_list(value) and all([is_integer(item) for item in value])


def are_rows(value, length):
    """Whether a value is a list of lists, each of so many integers."""
    return is_list(value) and all([are_integers(row) and len(row) == length for row in value])


def is_each_once(value, many):
    """Whether a value is a list of the integers below many, each once, in any order."""
    return are_integers(value) and sorted(value) == list(range(many))


def first_outside(values, many):
    """The index of the first item that is none of the integers below many; None without any."""
    for at, value in enumerate(values):
        if not is_within(value, 0, many - 1):
            return at
    return None


def choices(many, size):
    """All ascending tuples of so many of the integers below many, as tuples are ordered."""
    found = [()]
    for _ in range(size):
        found = [ahead + (item,) for ahead in found for item in range(ahead[-1] + 1 if ahead else 0, many)]
    return found


def want_number(value, least, most, part):
    """Raises BadNumber for what is no integer from least to most."""
    if not is_within(value, least, most):
        raise BadNumber(part)


def want_number_or_none(value, least, most, part):
    """Raises BadNumber for what is neither None nor an integer from least to most."""
    if value is not None:
        want_number(value, least, most, part)
