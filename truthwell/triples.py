"""Triples (who, true, told), and the places at which the rows of a rule tell of them."""


def place_of(heaps, who, true, told):
    """The place of a triple in the rows of a rule of so many heaps."""
    return (who * heaps + true) * heaps + told


def all_triples(answerers, heaps):
    """All triples, ascending: as the rows of a rule tell of them."""
    return [(who, true, told) for who in range(answerers) for true in range(heaps) for told in range(heaps)]
