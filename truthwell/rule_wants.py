"""What is passed for a rule, or for something of one: its errors."""

from truthwell.errors import BadList
from truthwell.errors import BadPast
from truthwell.errors import BadRule
from truthwell.errors import Unlike
from truthwell.lists import are_rows
from truthwell.rules import Rule
from truthwell.rules import want_answerer
from truthwell.rules import want_heap
from truthwell.rules import want_stand


def want_rule(rule, part):
    """Raises BadRule for what is no rule."""
    if not isinstance(rule, Rule):
        raise BadRule(part)


def want_rule_at(rule, stand):
    """For what is no rule, or no stand of it, their errors."""
    want_rule(rule, "rule")
    want_stand(rule, stand)


def want_match(one, other):
    """Raises Unlike for two rules that do not match."""
    if one.answerers != other.answerers:
        raise Unlike("answerers")
    if one.heaps != other.heaps:
        raise Unlike("heaps")


def want_two_stands(rule, stand, other, other_stand):
    """For what is no stand of one of two rules that match, their errors."""
    want_rule_at(rule, stand)
    want_rule(other, "other")
    want_stand(other, other_stand)
    want_match(rule, other)


def want_triples(past):
    """Raises BadPast for what is no list of triples of integers."""
    if not are_rows(past, 3):
        raise BadPast("past")


def want_past(rule, past):
    """For what is no past of the rule, its errors."""
    want_triples(past)
    for who, true, told in past:
        want_answerer(rule, who)
        want_heap(rule, true)
        want_heap(rule, told)


def want_asked(rule, asked):
    """For what is no list of pairs (who, true) of the rule, its errors."""
    if not are_rows(asked, 2):
        raise BadList("asked")
    for who, true in asked:
        want_answerer(rule, who)
        want_heap(rule, true)
