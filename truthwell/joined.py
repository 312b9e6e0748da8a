"""Rules of two or more rules."""

from truthwell.as_met import rule_as_met
from truthwell.errors import BadRule
from truthwell.errors import Silent
from truthwell.errors import Unlike
from truthwell.lists import is_list
from truthwell.rule_rows import is_shut
from truthwell.rule_wants import want_match
from truthwell.rule_wants import want_rule
from truthwell.rules import Rule

FIRST = (0, 0)


def both(one, other):
    """The rule that lets what both rules let and behind which both can always go on."""
    want_two(one, other)
    behind = pairs_met(one, other)
    falling = fallen(behind, one.heaps)
    if FIRST in falling:
        raise Silent()
    return rule_as_met(one.answerers, one.heaps, [FIRST], lambda pair: staying(behind[pair], falling))


def either(one, other):
    """The rule of which one of two is kept, untold which."""
    want_two(one, other)
    return rule_as_met(one.answerers, one.heaps, [FIRST], lambda pair: row_of_either(one, other, pair))


def each_own(rules):
    """The rule of answerers each of whom keeps the rule with its own number."""
    if not is_list(rules) or not 1 <= len(rules) <= 4 or not all([isinstance(rule, Rule) for rule in rules]):
        raise BadRule("rules")
    if any([rule.answerers > 1 for rule in rules]):
        raise Unlike("answerers")
    if any([rule.heaps != rules[0].heaps for rule in rules]):
        raise Unlike("heaps")
    return rule_as_met(len(rules), rules[0].heaps, [(0,) * len(rules)], lambda stands: row_of_own(rules, stands))


def want_two(one, other):
    """For what is not two rules that match, their errors."""
    want_rule(one, "one")
    want_rule(other, "other")
    want_match(one, other)


def pairs_met(one, other):
    """Of each pair of stands that is met the pairs behind it, triple by triple; None where one bars."""
    behind = {}
    waiting = [FIRST]
    while waiting:
        pair = waiting.pop()
        if pair not in behind:
            behind[pair] = row_of_both(one, other, pair)
            waiting.extend([follower for follower in behind[pair] if follower is not None])
    return behind


def row_of_both(one, other, pair):
    """For each triple the pair behind it, None if it is barred at one of the two stands."""
    left_row = one.rows[pair[0]]
    right_row = other.rows[pair[1]]
    return [None if left is None or right is None else (left, right) for left, right in zip(left_row, right_row)]


def fallen(behind, heaps):
    """The pairs that do not stay: for some answerer and true heap nothing leads on to one that stays."""
    ahead = {pair: [] for pair in behind}
    for pair in behind:
        for follower in behind[pair]:
            if follower is not None:
                ahead[follower].append(pair)
    falling = {}
    waiting = list(behind)
    while waiting:
        pair = waiting.pop()
        if pair not in falling and is_dead(staying(behind[pair], falling), heaps):
            falling[pair] = True
            waiting.extend(ahead[pair])
    return falling


def staying(row, falling):
    """The row, without the pairs that do not stay."""
    return [None if pair is None or pair in falling else pair for pair in row]


def is_dead(row, heaps):
    """Whether for some answerer and true heap nothing is let."""
    return any([is_shut(row[at:at + heaps]) for at in range(0, len(row), heaps)])


def row_of_either(one, other, pair):
    """For each triple the pair behind it, None if it is barred at both; a stand that is gone is None."""
    left_row = row_at(one, pair[0])
    right_row = row_at(other, pair[1])
    return [None if left is None and right is None else (left, right) for left, right in zip(left_row, right_row)]


def row_at(rule, stand):
    """The row of a stand; of one that is gone, nothing is let."""
    return [None] * len(rule.rows[0]) if stand is None else rule.rows[stand]


def row_of_own(rules, stands):
    """For each triple the stands behind it: only that of the rule of whoever is asked changes."""
    row = []
    for who, rule in enumerate(rules):
        for entry in rule.rows[stands[who]]:
            row.append(None if entry is None else stands[:who] + (entry,) + stands[who + 1:])
    return row
