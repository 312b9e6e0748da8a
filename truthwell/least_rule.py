"""Least forms of rules, and what tells two stands apart."""

from truthwell.as_met import rule_as_met
from truthwell.errors import BadList
from truthwell.errors import NoStand
from truthwell.lists import first_outside
from truthwell.lists import is_list
from truthwell.rule_wants import want_rule
from truthwell.rule_wants import want_two_stands
from truthwell.two_stands import walked


def like_stands(rule):
    """For each stand the least one that is like it."""
    want_rule(rule, "rule")
    return least_like(rule)


def least_like(rule):
    """For each stand the least one that is like it: ever finer, until nothing is told apart any more."""
    likes = [0] * len(rule.rows)
    finer = finer_likes(rule, likes)
    while finer != likes:
        likes = finer
        finer = finer_likes(rule, likes)
    return tuple(likes)


def finer_likes(rule, likes):
    """For each stand the least one that was like it, and from which all triples lead to what was like."""
    firsts = {}
    finer = []
    for stand, row in enumerate(rule.rows):
        key = (likes[stand], tuple([None if entry is None else likes[entry] for entry in row]))
        firsts.setdefault(key, stand)
        finer.append(firsts[key])
    return finer


def least_form(rule, stands):
    """The least form of the rule for these stands, and where they are in it."""
    want_rule(rule, "rule")
    if not is_list(stands) or len(stands) == 0:
        raise BadList("stands")
    wrong = first_outside(stands, len(rule.rows))
    if wrong is not None:
        raise NoStand(stands[wrong])
    likes = least_like(rule)
    told = [likes[stand] for stand in stands]
    firsts = [stand for at, stand in enumerate(told) if stand not in told[:at]]
    form = rule_as_met(rule.answerers, rule.heaps, firsts, lambda stand: like_row(rule, likes, stand))
    return form, tuple([firsts.index(stand) for stand in told])


def like_row(rule, likes, stand):
    """The row of a stand, each stand in it as the least one that is like it."""
    return [None if entry is None else likes[entry] for entry in rule.rows[stand]]


def parting(rule, stand, other, other_stand):
    """The first past that is lawful from just one of the two stands; None if they are like."""
    want_two_stands(rule, stand, other, other_stand)
    return walked(rule, stand, other, other_stand, True)[1]
