"""Rules by plain words."""

from truthwell.lists import want_number
from truthwell.rules import Rule
from truthwell.triples import all_triples

MOST_LIES = 63
MOST_STANDS = 64


def want_size(answerers, heaps):
    """Raises BadNumber for numbers that no rule has."""
    want_number(answerers, 1, 4, "answerers")
    want_number(heaps, 2, 3, "heaps")


def even_rule(answerers, heaps, stands):
    """The even-handed rule; for each stand is told where truths and where lies lead."""
    triples = all_triples(answerers, heaps)
    rows = [[truth if true == told else lie for who, true, told in triples] for truth, lie in stands]
    return Rule(answerers, heaps, rows)


def truthful(answerers=1, heaps=2):
    """No answer is a lie."""
    want_size(answerers, heaps)
    return even_rule(answerers, heaps, [(0, None)])


def always_false(answerers=1, heaps=2):
    """Each answer is a lie."""
    want_size(answerers, heaps)
    return even_rule(answerers, heaps, [(None, 0)])


def anything(answerers=1, heaps=2):
    """Each answer may be a lie."""
    want_size(answerers, heaps)
    return even_rule(answerers, heaps, [(0, 0)])


def at_most(lies, answerers=1, heaps=2):
    """So many lies in all."""
    want_number(lies, 0, MOST_LIES, "lies")
    want_size(answerers, heaps)
    stands = [(stand, stand + 1) for stand in range(lies)]
    return even_rule(answerers, heaps, stands + [(lies, None)])


def never_running(answerers=1, heaps=2):
    """Never two lies running."""
    want_size(answerers, heaps)
    return even_rule(answerers, heaps, [(0, 1), (0, None)])


def one_in(many, answerers=1, heaps=2):
    """Of any so many answers, one behind another, at most one is a lie."""
    want_number(many, 1, MOST_STANDS, "many")
    want_size(answerers, heaps)
    stands = [(stand - 1, None) for stand in range(1, many)]
    return even_rule(answerers, heaps, [(0, many - 1)] + stands)


def after_truths(many, answerers=1, heaps=2):
    """So many truths, then anything."""
    want_number(many, 0, MOST_LIES, "many")
    want_size(answerers, heaps)
    stands = [(stand + 1, None) for stand in range(many)]
    return even_rule(answerers, heaps, stands + [(many, many)])


def at_turns(many, answerers=1, heaps=2):
    """Each answer with a number that so many divides may be a lie, others may not."""
    want_number(many, 1, MOST_STANDS, "many")
    want_size(answerers, heaps)
    stands = [(stand + 1, None) for stand in range(many - 1)]
    return even_rule(answerers, heaps, stands + [(0, 0)])


def false_yes(lies, answerers=1):
    """Of two heaps told 1 may be a lie, so many times; told 0 never."""
    want_number(lies, 0, MOST_LIES, "lies")
    want_size(answerers, 2)
    triples = all_triples(answerers, 2)
    rows = [[yes_entry(stand, lies, true, told) for who, true, told in triples] for stand in range(lies + 1)]
    return Rule(answerers, 2, rows)


def yes_entry(stand, lies, true, told):
    """Where one answer leads if only told 1 may be a lie."""
    if true == told:
        return stand
    return stand + 1 if told == 1 and stand < lies else None


def named_tells(heaps=2):
    """As many answerers as heaps; whoever the last told heap names must tell the truth."""
    want_number(heaps, 2, 3, "heaps")
    triples = all_triples(heaps, heaps)
    rows = [[named_entry(named, who, true, told) for who, true, told in triples] for named in range(-1, heaps)]
    return Rule(heaps, heaps, rows)


def named_entry(named, who, true, told):
    """Where one answer leads if this answerer must tell the truth; -1 names nobody."""
    return None if who == named and true != told else 1 + told
