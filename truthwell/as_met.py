"""Stands are numbered as they are met."""

from truthwell.errors import TooMany
from truthwell.rules import Rule


def rule_as_met(answerers, heaps, firsts, row_of):
    """The rule of the stands that are met from the first ones, numbered so.

    Stands are told by keys; row_of tells for a key the keys behind all triples, ascending, None
    for a barred one.
    """
    numbers = {}
    met = []
    number_all(firsts, numbers, met)
    rows = []
    while len(rows) < len(met):
        behind = row_of(met[len(rows)])
        number_all([key for key in behind if key is not None], numbers, met)
        rows.append([None if key is None else numbers[key] for key in behind])
    return Rule(answerers, heaps, rows)


def number_all(keys, numbers, met):
    """Gives the next numbers to those keys that have none."""
    for key in keys:
        if key not in numbers:
            if len(met) == Rule.MOST:
                raise TooMany("stands", Rule.MOST)
            numbers[key] = len(met)
            met.append(key)
