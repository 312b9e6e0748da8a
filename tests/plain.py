"""Plain searches by the words of the document, slow and short, to compare the program with."""

from itertools import combinations
from itertools import product

from helpers import end_of
from helpers import is_int
from helpers import is_ok
from helpers import triples_of

NEVER = None


def groups_of(case):
    things = range(case.things)
    if case.wish.classes is None:
        return list(combinations(things, case.wish.most + 1))
    return [(x, y) for x, y in combinations(things, 2) if case.wish.classes[x] != case.wish.classes[y]]


def settled(case, situation):
    return not any(all(situation[x] != -1 for x in group) for group in groups_of(case))


def behind(case, situation, question, told):
    """By the rows of the rule."""
    ends = [-1 if s == -1 else end_of(case.rule, s, [(question.who, question.heaps[x], told)]) for x, s in enumerate(situation)]
    return tuple(-1 if end is None else end for end in ends)


def answers(case, situation, number):
    """The pairs (told, situation) of the answers that can come."""
    found = [(told, behind(case, situation, case.stock.questions[number], told)) for told in range(case.heaps)]
    return [(told, new) for told, new in found if max(new) >= 0]


def numbers_of(case):
    return range(len(case.stock.questions))


def all_met(case, situation=None):
    met = [case.firsts if situation is None else tuple(situation)]
    seen = set(met)
    for now in met:
        if not settled(case, now):
            for number in numbers_of(case):
                for told, new in answers(case, now, number):
                    if new not in seen:
                        seen.add(new)
                        met.append(new)
    return tuple(met)


def holds_out(case, met):
    """The situations in which one can hold out for ever, by leaving out those in which one cannot."""
    left = {situation for situation in met if not settled(case, situation)}
    while True:
        kept = {s for s in left if all(any(new in left for told, new in answers(case, s, number)) for number in numbers_of(case))}
        if kept == left:
            return left
        left = kept


def can_settle(case, situation, most, known):
    """A plain recursion: whether so many questions are enough."""
    if settled(case, situation):
        return True
    if most == 0:
        return False
    key = (situation, most)
    if key not in known:
        known[key] = any(all(can_settle(case, new, most - 1, known) for told, new in answers(case, situation, number))
                         for number in numbers_of(case))
    return known[key]


def all_depths(case, situation=None):
    """For each situation that comes about its least depth."""
    met = all_met(case, situation)
    never = holds_out(case, met)
    known = {}
    depths = {}
    for now in met:
        depths[now] = NEVER
        if now not in never:
            most = 0
            while not can_settle(case, now, most, known):
                most += 1
            depths[now] = most
    return depths


def above(depth, most):
    return depth is NEVER or depth > most


def freer_pairs(one, other):
    """All pairs of stands of which the first is no freer than the second, by leaving out others."""
    pairs = set(product(range(len(one)), range(len(other))))
    triples = triples_of(one)
    while True:
        kept = set()
        for s, t in pairs:
            ends = [(end_of(one, s, [triple]), end_of(other, t, [triple])) for triple in triples]
            if all(left is None or (left, right) in pairs for left, right in ends):
                kept.add((s, t))
        if kept == pairs:
            return pairs
        pairs = kept


def no_freer(pairs, one, other):
    return all(s == -1 or (t != -1 and (s, t) in pairs) for s, t in zip(one, other))


def reached_from(rule, stand):
    met = [stand]
    for now in met:
        for triple in triples_of(rule):
            end = end_of(rule, now, [triple])
            if end is not None and end not in met:
                met.append(end)
    return met


def fades(case):
    pairs = freer_pairs(case.rule, case.rule)
    return [all((s, f) in pairs for s in reached_from(case.rule, f)) for f in case.firsts]


def is_situation(case, value):
    return isinstance(value, tuple) and len(value) == case.things and all(is_int(s) and -1 <= s < len(case.rule) for s in value)


def all_situations(case):
    return list(product(range(-1, len(case.rule)), repeat=case.things))


def is_past(rule, value):
    return isinstance(value, tuple) and all(isinstance(triple, tuple) and len(triple) == 3 and all(is_int(v) for v in triple)
                                            and triple in triples_of(rule) for triple in value)


def ascending(values):
    return all(one < two for one, two in zip(values, values[1:]))


def right_plan(case, table, most=None):
    if not isinstance(table, tuple) or not all(isinstance(row, tuple) and len(row) == 3 and is_situation(case, row[0]) for row in table):
        return False
    ranks = {row[0]: row[1] for row in table}
    if not ascending([row[0] for row in table]) or case.firsts not in ranks:
        return False
    for situation, rank, number in table:
        if not is_int(rank):
            return False
        if settled(case, situation):
            if rank != 0 or number is not None:
                return False
        elif rank < 1 or not is_int(number) or not 0 <= number < len(case.stock.questions):
            return False
    for situation, rank, number in table:
        if number is not None and not all(new in ranks and ranks[new] < rank for told, new in answers(case, situation, number)):
            return False
    return most is None or ranks[case.firsts] <= most


def led_by(case, table):
    """The situations to which a right plan leads."""
    asked = {row[0]: row[2] for row in table}
    met = [case.firsts]
    for now in met:
        if asked[now] is not None:
            met.extend(new for told, new in answers(case, now, asked[now]) if new not in met)
    return sorted(set(met))


def right_untold(case, group, ring):
    if group not in groups_of(case) or not all(is_int(x) for x in group) or not isinstance(ring, tuple):
        return False
    for pair in ring:
        if not isinstance(pair, tuple) or len(pair) != 2 or not is_situation(case, pair[0]) or settled(case, pair[0]):
            return False
        if any(s != -1 and x not in group for x, s in enumerate(pair[0])) or not isinstance(pair[1], tuple):
            return False
        if len(pair[1]) != len(case.stock.questions) or not all(is_int(told) and 0 <= told < case.heaps for told in pair[1]):
            return False
    situations = [pair[0] for pair in ring]
    begun = tuple(s if x in group else -1 for x, s in enumerate(case.firsts))
    if begun not in situations or not ascending(situations):
        return False
    return all(dict(answers(case, situation, number)).get(told) in situations
               for situation, row in ring for number, told in enumerate(row))


def right_entries(case, entries, is_last):
    if not isinstance(entries, tuple):
        return False
    for entry in entries:
        if not isinstance(entry, tuple) or len(entry) != 2 or not is_situation(case, entry[0]) or settled(case, entry[0]):
            return False
        if not isinstance(entry[1], tuple) or not all(is_int(told) for told in entry[1]):
            return False
        if is_last:
            if entry[1] != ():
                return False
        elif len(entry[1]) != len(case.stock.questions):
            return False
        elif any(told not in dict(answers(case, entry[0], number)) for number, told in enumerate(entry[1])):
            return False
    return ascending([entry[0] for entry in entries])


def stood_for(pairs, entries, situation):
    return any(no_freer(pairs, entry[0], situation) for entry in entries)


def closed_in(case, pairs, entries, others):
    return all(stood_for(pairs, others, dict(answers(case, situation, number))[told])
               for situation, row in entries for number, told in enumerate(row))


def right_book(case, layers, most=None):
    if not isinstance(layers, tuple) or len(layers) == 0 or (most is not None and len(layers) != most + 1):
        return False
    if not all(right_entries(case, layer, at == len(layers) - 1) for at, layer in enumerate(layers)):
        return False
    pairs = freer_pairs(case.rule, case.rule)
    return stood_for(pairs, layers[0], case.firsts) and all(closed_in(case, pairs, one, two) for one, two in zip(layers, layers[1:]))


def right_ring(case, table):
    pairs = freer_pairs(case.rule, case.rule)
    return right_entries(case, table, False) and stood_for(pairs, table, case.firsts) and closed_in(case, pairs, table, table)


def lawful_for(case, numbers, hearing, thing, stand=None):
    """Whether the past of a thing by a hearing is lawful, and where it leads: None if it is not."""
    questions = [case.stock.questions[number] for number in numbers]
    past = [(question.who, question.heaps[thing], told) for question, told in zip(questions, hearing)]
    return end_of(case.rule, case.firsts[thing] if stand is None else stand, past)


def all_hearings(case, numbers):
    return list(product(range(case.heaps), repeat=len(numbers)))


def open_by(case, numbers, hearing):
    return tuple(x for x in range(case.things) if lawful_for(case, numbers, hearing, x) is not None)


def shadow_of(case, numbers):
    """Hearing by hearing."""
    shadow = []
    for group in groups_of(case):
        found = set()
        for hearing in all_hearings(case, numbers):
            ends = tuple(lawful_for(case, numbers, hearing, x) for x in group)
            if None not in ends:
                found.add(ends)
        shadow.append(tuple(sorted(found)))
    return tuple(shadow)


def right_shadow(case, value):
    groups = groups_of(case)
    if not isinstance(value, tuple) or len(value) != len(groups):
        return False
    for group, standings in zip(groups, value):
        if not isinstance(standings, tuple):
            return False
        for standing in standings:
            if not isinstance(standing, tuple) or len(standing) != len(group):
                return False
            if not all(is_int(s) and 0 <= s < len(case.rule) for s in standing):
                return False
        if not ascending(standings):
            return False
    return True


def shadow_on(case, shadow, number):
    """Standing by standing."""
    question = case.stock.questions[number]
    found = []
    for group, standings in zip(groups_of(case), shadow):
        ends = [tuple(end_of(case.rule, s, [(question.who, question.heaps[x], told)]) for x, s in zip(group, standing))
                for standing in standings for told in range(case.heaps)]
        found.append(tuple(sorted({end for end in ends if None not in end})))
    return tuple(found)


def bare(shadow):
    return all(standings == () for standings in shadow)


def inside(one, other):
    return all(set(left) <= set(right) for left, right in zip(one, other))


def first_shadow_of(case):
    return tuple((tuple(case.firsts[x] for x in group),) for group in groups_of(case))


def is_enough(case, numbers):
    return all(settled(case, tuple(0 if x in open_by(case, numbers, hearing) else -1 for x in range(case.things)))
               for hearing in all_hearings(case, numbers))


def right_enough(case, numbers, table, most=None):
    if not isinstance(numbers, tuple) or not all(is_int(n) and 0 <= n < len(case.stock.questions) for n in numbers):
        return False
    if most is not None and len(numbers) > most:
        return False
    if not strict_equal(table, table_of(case, numbers)):
        return False
    return is_enough(case, numbers)


def table_of(case, numbers):
    pairs = [(hearing, open_by(case, numbers, hearing)) for hearing in all_hearings(case, numbers)]
    return tuple(pair for pair in pairs if pair[1])


def strict_equal(one, other):
    """Equal, and True and False stand for no number."""
    if isinstance(other, tuple):
        return isinstance(one, tuple) and len(one) == len(other) and all(strict_equal(a, b) for a, b in zip(one, other))
    return type(one) is type(other) and one == other


def right_shared(case, numbers, group, hearing):
    if not isinstance(group, tuple) or group not in groups_of(case) or not all(is_int(x) for x in group):
        return False
    if not isinstance(hearing, tuple) or len(hearing) != len(numbers) or not all(is_int(g) and 0 <= g < case.heaps for g in hearing):
        return False
    return all(x in open_by(case, numbers, hearing) for x in group)


def right_layers(case, most, layers):
    if not isinstance(layers, tuple) or len(layers) != most + 1 or not all(isinstance(layer, tuple) for layer in layers):
        return False
    if not all(right_shadow(case, shadow) and not bare(shadow) for layer in layers for shadow in layer):
        return False
    if not any(inside(shadow, first_shadow_of(case)) for shadow in layers[0]):
        return False
    return all(led_inside(case, one, two) for one, two in zip(layers, layers[1:]))


def right_shadow_ring(case, shadows):
    if not isinstance(shadows, tuple) or not all(right_shadow(case, shadow) and not bare(shadow) for shadow in shadows):
        return False
    return any(inside(shadow, first_shadow_of(case)) for shadow in shadows) and led_inside(case, shadows, shadows)


def led_inside(case, layer, following):
    return all(any(inside(other, shadow_on(case, shadow, number)) for other in following)
               for shadow in layer for number in numbers_of(case))


def turned(case, cloud, number):
    return tuple(sorted({new for situation in cloud for told, new in answers(case, situation, number)}))


def all_clouds(case, rounds, most=10 ** 9):
    """The clouds that come about; None if there are more than most."""
    met = [(case.firsts,)]
    seen = set(met)
    for cloud in met:
        new = [turned(case, cloud, number) for number in numbers_of(case)]
        if rounds > 1:
            new += [(situation,) for situation in cloud if not settled(case, situation)]
        for other in new:
            if other not in seen:
                seen.add(other)
                met.append(other)
        if len(met) > most:
            return None
    return tuple(sorted(met))


def round_ends(case, situation, numbers):
    """What stands behind the hearings of a round, each of whose answers can come behind those ahead."""
    ends = {situation}
    for number in numbers:
        ends = {new for now in ends for told, new in answers(case, now, number)}
    return ends


def settled_in_rounds(case, situation, rounds, most):
    """Whether at most so many rounds and questions do: a plain trial of all lists, round by round."""
    if settled(case, situation):
        return True
    if rounds == 0:
        return False
    for length in range(1, most + 1):
        for numbers in product(numbers_of(case), repeat=length):
            if all(settled_in_rounds(case, end, rounds - 1, most - length) for end in round_ends(case, situation, numbers)):
                return True
    return False


def lawful_signs(rule, stand, many):
    """The strings of so many signs that are lawful from a stand, by pasts."""
    found = {("", stand)}
    for _ in range(many):
        found = {(signs + ("T" if true == told else "L"), end_of(rule, s, [(who, true, told)]))
                 for signs, s in found for who, true, told in triples_of(rule)}
        found = {(signs, s) for signs, s in found if s is not None}
    return {signs for signs, s in found}


def contrary(signs):
    return "".join({"T": "L", "L": "T"}[sign] for sign in signs)


def weight_by_hearings(case, situation, thing, answers_many, number):
    """How many hearings of one question, asked again and again, are lawful for a thing."""
    return sum(lawful_for(case, [number] * answers_many, hearing, thing, situation[thing]) is not None
               for hearing in all_hearings(case, [number] * answers_many))
