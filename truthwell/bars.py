"""Bars: which answers must be forbidden, so that the truth can be told."""

from truthwell.case_wants import want_case
from truthwell.cases import Case
from truthwell.depths import find_plan
from truthwell.errors import BadBars
from truthwell.errors import TooMany
from truthwell.growing import all_sets
from truthwell.growing import greatest_pairs
from truthwell.growing import parted_sets
from truthwell.growing import quickly_parted
from truthwell.half_walks import MOST_SITUATIONS
from truthwell.lists import are_rows
from truthwell.papers import Denial
from truthwell.papers import Paper
from truthwell.rule_rows import is_live
from truthwell.rule_wants import want_rule
from truthwell.rules import Rule
from truthwell.rules import want_answerer
from truthwell.rules import want_heap
from truthwell.rules import want_stand
from truthwell.triples import place_of
from truthwell.ways_on import let_at
from truthwell.ways_on import reached
from truthwell.whom import shown_short
from truthwell.whom import want_most

MOST_BARS = 8


class LeastBars(Paper):
    """The least sets of bars that are enough, each with its Plan, and the greatest short ones, with Books or Rings."""

    def __init__(self, enough, short):
        super().__init__("leastbars", enough, short)
        self.enough = self.parts[0]
        self.short = self.parts[1]


class NoBars(Denial):
    """The greatest short sets of bars, with Books or Rings, where none is enough."""

    def __init__(self, short):
        super().__init__("nobars", short)
        self.short = self.parts[0]


def bars_of(rule):
    """The bars whose triples are let, ascending."""
    want_rule(rule, "rule")
    return tuple([(stand,) + triple for stand in range(len(rule.rows)) for triple, _ in let_at(rule, stand)])


def want_bars(rule, bars):
    """For what is no list of bars of the rule, its errors."""
    if not are_rows(bars, 4):
        raise BadBars("bars")
    for stand, who, true, told in bars:
        want_stand(rule, stand)
        want_answerer(rule, who)
        want_heap(rule, true)
        want_heap(rule, told)


def with_bars(rule, bars):
    """The rule with these triples barred as well."""
    want_rule(rule, "rule")
    want_bars(rule, bars)
    return Rule(rule.answerers, rule.heaps, barred_rows(rule, bars))


def barred_rows(rule, bars):
    """The rows of the rule with these triples barred as well."""
    rows = [list(row) for row in rule.rows]
    for stand, who, true, told in bars:
        rows[stand][place_of(rule.heaps, who, true, told)] = None
    return rows


def want_case_of_bars(case, most, bars):
    """For what is no case, no number of questions, no bars of its rule, their errors."""
    want_case(case, "case")
    want_most(most)
    if bars is not None:
        want_bars(case.rule, bars)


def unlike_bars(case, bars):
    """These bars, None: all of the rule, ascending, each once."""
    told = bars_of(case.rule) if bars is None else bars
    return sorted({tuple(bar) for bar in told})


def sets_laid(case, bars):
    """The sets of these bars that can be laid."""
    return [some for some in all_sets(bars) if is_live(barred_rows(case.rule, some), case.heaps)]


def case_of_bars(case, bars):
    """The case with these triples barred as well."""
    return Case(case.stock, with_bars(case.rule, bars), case.firsts, case.wish)


def least_bars(case, most=None, bars=None):
    """The LeastBars; the NoBars, if no set of these bars is enough."""
    want_case_of_bars(case, most, bars)
    told = unlike_bars(case, bars)
    if len(told) > MOST_BARS:
        raise TooMany("bars", MOST_BARS)
    enough, short = parted_bars(case, sets_laid(case, told), most)
    pairs = [(some, shown_short(case_of_bars(case, some), most)) for some in short]
    return LeastBars(enough, pairs) if enough else NoBars(pairs)


def parted_bars(case, sets, most):
    """The pairs of the least sets that are enough and their Plans, and the greatest sets that are short."""
    if has_few_situations(case):
        return quickly_parted(sets, lambda some: find_plan(case_of_bars(case, some), most))
    enough, short = parted_sets(sets, lambda some: find_plan(case_of_bars(case, some), most), True)
    return enough, [some for some, _ in greatest_pairs(short)]


def has_few_situations(case):
    """Whether no more situations can come about than find_plan bears, whatever is barred: then it raises nothing."""
    many = 1
    for first in case.firsts:
        many = many * (1 + len(reached(case.rule, first)))
    return many - 1 <= MOST_SITUATIONS
