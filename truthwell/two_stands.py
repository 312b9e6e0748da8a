"""Pairs of stands, one of each of two rules, to which the same pasts lead."""

from truthwell.triples import all_triples


def walked(rule, stand, other, other_stand, is_either_way):
    """The pairs to which pasts lead that are lawful from both stands, as they are met; and the
    first past that is lawful from the first stand, but not from the other one, or, if either way
    is asked for, from just one of them: None without any. Behind such a past no more are met.
    """
    triples = all_triples(rule.answerers, rule.heaps)
    pairs = [(stand, other_stand)]
    steps = {(stand, other_stand): None}
    at = 0
    while at < len(pairs):
        left_row = rule.rows[pairs[at][0]]
        right_row = other.rows[pairs[at][1]]
        for place, triple in enumerate(triples):
            pair = (left_row[place], right_row[place])
            if is_parted(pair, is_either_way):
                return pairs, road_to(steps, pairs[at]) + (triple,)
            if None not in pair and pair not in steps:
                steps[pair] = (pairs[at], triple)
                pairs.append(pair)
        at += 1
    return pairs, None


def is_parted(pair, is_either_way):
    """Whether the entries of one triple tell the two stands apart."""
    if is_either_way:
        return pair.count(None) == 1
    return pair[0] is not None and pair[1] is None


def road_to(steps, pair):
    """The past by which a pair was met first."""
    road = []
    while steps[pair] is not None:
        pair, triple = steps[pair]
        road.append(triple)
    return tuple(road[::-1])


def parting_lengths(rule):
    """For each two stands how many triples the first past has that is lawful from the one and not
    from the other: None without any. Told from the ends: those of one triple first."""
    lengths = [[None] * len(rule.rows) for _ in rule.rows]
    ahead = pairs_ahead(rule)
    waiting = parted_pairs(rule)
    length = 1
    while waiting:
        fresh = sorted({pair for pair in waiting if lengths[pair[0]][pair[1]] is None})
        for one, two in fresh:
            lengths[one][two] = length
        waiting = [pair for behind in fresh for pair in ahead.get(behind, [])]
        length += 1
    return lengths


def parted_pairs(rule):
    """The pairs of stands of which the first one lets a triple that the other one bars."""
    rows = rule.rows
    stands = range(len(rows))
    return [(one, two) for one in stands for two in stands
            if any([is_parted(pair, False) for pair in zip(rows[one], rows[two])])]


def pairs_ahead(rule):
    """For each pair of stands those from which one triple leads to it."""
    ahead = {}
    for one, left_row in enumerate(rule.rows):
        for two, right_row in enumerate(rule.rows):
            for pair in zip(left_row, right_row):
                if None not in pair:
                    ahead.setdefault(pair, []).append((one, two))
    return ahead
