"""Several cases that may hold: which of them a log doubts."""

from truthwell.cases import Case
from truthwell.errors import BadCase
from truthwell.errors import Unlike
from truthwell.late import want_log
from truthwell.lists import is_list
from truthwell.log_walks import is_gone
from truthwell.log_walks import stands_along
from truthwell.log_walks import stands_at_end
from truthwell.log_walks import things_left


def want_log_of_all(cases, numbers, heard):
    """For what is no list of cases of one stock, or no log of it, the errors."""
    if not is_list(cases) or len(cases) == 0 or not all([isinstance(case, Case) for case in cases]):
        raise BadCase("cases")
    if any([case.stock != cases[0].stock for case in cases]):
        raise Unlike("stock")
    want_log(cases[0], numbers, heard)


def kept(cases, numbers, heard):
    """The pairs of the number and the open things of each case in which the log is not broken."""
    want_log_of_all(cases, numbers, heard)
    found = [(at, things_left(stands_at_end(case, numbers, heard))) for at, case in enumerate(cases)]
    return tuple([(at, things) for at, things in found if things])


def doubted_at(cases, numbers, heard):
    """For each case the least number of places behind which the log is broken; None if it never is."""
    want_log_of_all(cases, numbers, heard)
    return tuple([first_gone(stands_along(case, numbers, heard)) for case in cases])


def first_gone(along):
    """The index of the first of these that leaves nothing open; None without any."""
    for at, left in enumerate(along):
        if is_gone(left):
            return at
    return None
