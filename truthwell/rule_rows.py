"""The rows of rules: whether they are right, what they tell, and their words."""

from truthwell.checks import is_within
from truthwell.errors import BadRule
from truthwell.errors import Dead
from truthwell.lists import is_list
from truthwell.triples import all_triples


def are_entries(row, size, stands):
    """Whether this is a list of so many entries: None or one of so many stands."""
    return (is_list(row) and len(row) == size
            and all([entry is None or is_within(entry, 0, stands - 1) for entry in row]))


def want_rows(answerers, heaps, rows):
    """Raises BadRule or Dead for what is not the rows of a live rule."""
    if not is_list(rows) or len(rows) == 0:
        raise BadRule("rows")
    size = answerers * heaps * heaps
    if not all([are_entries(row, size, len(rows)) for row in rows]):
        raise BadRule("rows")
    for stand, row in enumerate(rows):
        want_live(stand, row, heaps)


def want_live(stand, row, heaps):
    """Raises Dead for the first answerer and true heap for which nothing is let."""
    for at in range(0, len(row), heaps):
        if is_shut(row[at:at + heaps]):
            who, true = divmod(at // heaps, heaps)
            raise Dead(stand, who, true)


def is_live(rows, heaps):
    """Whether at each stand something is let for each answerer and true heap."""
    return not any([is_shut(row[at:at + heaps]) for row in rows for at in range(0, len(row), heaps)])


def is_shut(entries):
    """Whether all of these entries are barred."""
    return all([entry is None for entry in entries])


def are_even(answerers, heaps, rows):
    """Whether at each stand all truths have one entry, and all lies likewise."""
    triples = all_triples(answerers, heaps)
    return all([is_even_row(row, triples) for row in rows])


def is_even_row(row, triples):
    """Whether the entries of all truths are equal, and those of all lies likewise."""
    truths = [entry for entry, (who, true, told) in zip(row, triples) if true == told]
    lies = [entry for entry, (who, true, told) in zip(row, triples) if true != told]
    return truths.count(truths[0]) == len(truths) and lies.count(lies[0]) == len(lies)


def rule_words(answerers, heaps, rows):
    """The words of a rule with these rows."""
    words = [str(answerers), str(heaps)]
    for row in rows:
        words.append("|")
        words.extend(["-" if entry is None else str(entry) for entry in row])
    return words


def read_rows(words, answerers, heaps, most):
    """The rows, at most so many, whose words stand here; whatever they name must be among them."""
    rows = [read_row(words, answerers, heaps, most)]
    while len(rows) < most and words.sees("|"):
        rows.append(read_row(words, answerers, heaps, most))
    named = max([entry for row in rows for entry in row if entry is not None])
    # A stand that is named and has not come yet could still come: so a word is missing here.
    if named >= len(rows):
        words.refuse()
    return rows


def read_row(words, answerers, heaps, most):
    """The entries of one stand, behind their bar."""
    words.skip("|")
    row = []
    for _ in range(answerers * heaps):
        row.extend(read_entries(words, heaps, most))
    return row


def read_entries(words, heaps, most):
    """The entries for one answerer and one true heap, of which one at least is let."""
    entries = []
    while len(entries) < heaps:
        may_bar = len(entries) < heaps - 1 or not is_shut(entries)
        if may_bar and words.sees("-"):
            words.skip("-")
            entries.append(None)
        else:
            entries.append(words.take_number(0, most - 1))
    return entries
