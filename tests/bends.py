"""Papers bent at one place: what is shown must be looked at everywhere."""

from helpers import BIG


def bends(value):
    """Yields the nested tuples that differ from these at one place."""
    if isinstance(value, tuple):
        yield from bent_rows(value)
        for at, item in enumerate(value):
            for bent in bends(item):
                yield value[:at] + (bent,) + value[at + 1:]
    elif isinstance(value, int):
        yield from (value + 1, value - 1, bool(value) if value in (0, 1) else True, None, str(value), float(value), BIG, (value,), {})
    elif value is None:
        yield from (0, False, "")
    elif isinstance(value, str):
        yield from ("", value + "T", value[1:], None, 0, value.lower())


def bent_rows(value):
    """A row is lost, doubled, moved, put in; or there is none at all."""
    yield from (None, 0, "", {}, value + ((),), value + (None,), value + (0,), (value,))
    for at, item in enumerate(value):
        yield value[:at] + value[at + 1:]
        yield value[:at + 1] + value[at:]
        if at > 0:
            yield value[:at - 1] + (item, value[at - 1]) + value[at + 1:]


def some_bends(draws, value, many):
    """At most so many of them, made up."""
    found = list(bends(value))
    if len(found) <= many:
        return found
    return [draws.pick(found) for _ in range(many)]


def listed(value):
    """The same with lists in the place of tuples."""
    if isinstance(value, tuple):
        return [listed(item) for item in value]
    return value
