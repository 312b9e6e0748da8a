"""Whether any value is a past, for papers that hold one."""

from truthwell.lists import are_rows
from truthwell.lists import first_outside


def is_past_of(rule, value):
    """Whether this is a past of the rule."""
    return are_rows(value, 3) and all([is_triple_of(rule, triple) for triple in value])


def is_triple_of(rule, triple):
    """Whether these integers are an answerer and two heaps of the rule."""
    return first_outside(triple[:1], rule.answerers) is None and first_outside(triple[1:], rule.heaps) is None
