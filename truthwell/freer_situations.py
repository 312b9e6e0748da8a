"""Which situations are freer than which."""

from truthwell.case_wants import is_situation
from truthwell.case_wants import want_case
from truthwell.case_wants import want_situation
from truthwell.errors import BadSituation
from truthwell.lists import is_list
from truthwell.moves import OUT
from truthwell.shelves import freer_rows
from truthwell.shelves import least_free_of
from truthwell.two_stands import walked


def is_no_freer(case, one, other):
    """Whether each thing's stand in the one is no freer than in the other."""
    want_case(case, "case")
    want_situation(case, one, "one")
    want_situation(case, other, "other")
    pairs = {pair: True for pair in zip(one, other)}
    return all([is_stand_no_freer(case.rule, left, right) for left, right in pairs])


def is_stand_no_freer(rule, stand, other):
    """Whether a stand, or -1, is no freer than another one."""
    if stand == OUT or other == OUT:
        return stand == OUT
    return stand == other or walked(rule, stand, rule, other, False)[1] is None


def least_free(case, situations):
    """Those of some situations than which no other one is less free, ascending; of like ones the least."""
    want_case(case, "case")
    if not is_list(situations) or not all([is_situation(case, situation) for situation in situations]):
        raise BadSituation("situations")
    if len(situations) == 0:
        return ()
    return tuple(least_free_of(freer_rows(case.rule), sorted({tuple(situation) for situation in situations})))
