"""Where pasts lead in a rule, for what was checked before."""

from truthwell.triples import all_triples
from truthwell.triples import place_of


def behind_triple(rule, stand, triple):
    """The stand behind a triple; None if it is barred."""
    who, true, told = triple
    return rule.rows[stand][place_of(rule.heaps, who, true, told)]


def let_at(rule, stand):
    """The triples that are let at a stand, ascending, each with the stand behind it."""
    triples = all_triples(rule.answerers, rule.heaps)
    return [(triple, behind) for triple, behind in zip(triples, rule.rows[stand]) if behind is not None]


def led(rule, stand, past):
    """The stand to which a past leads, and how many of its triples were let."""
    for at, triple in enumerate(past):
        behind = behind_triple(rule, stand, triple)
        if behind is None:
            return stand, at
        stand = behind
    return stand, len(past)


def is_let_all(rule, stand, past):
    """Whether none of the triples of a past is barred on its way."""
    return led(rule, stand, past)[1] == len(past)


def reached(rule, stand):
    """The stands to which lawful pasts lead, each with a past of the fewest triples, as they are met."""
    roads = {stand: ()}
    met = [stand]
    at = 0
    while at < len(met):
        ahead = met[at]
        for triple, behind in let_at(rule, ahead):
            if behind not in roads:
                roads[behind] = roads[ahead] + (triple,)
                met.append(behind)
        at += 1
    return roads
