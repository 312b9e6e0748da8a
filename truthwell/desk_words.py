"""The words of the lines of a desk, and what they tell."""

from truthwell.checks import is_name
from truthwell.reader import kind_of
from truthwell.reader import value_in
from truthwell.reader import wish_in
from truthwell.words import Words

# What stands behind the first word of a line: new is any name, name one that is kept, and a kind one of its values.
LINES = {
    "keep": ("new", "value"), "case": ("new", "stock", "rule", ":", "wish"), "judge": ("new", "case"),
    "book": ("new", "case", "number"), "forget": ("name",), "text": ("name",), "names": (), "depth": ("case",),
    "ahead": ("case", "numbers"), "fewest": ("case", "number"), "rounds": ("case", "number"),
    "coins": ("case", ":", "numbers"), "fades": ("case",), "shown": ("case", "name"),
    "whole": ("case", ":", "numbers"), "evening": ("new", "case"), "ask": ("evening", "number"),
    "hear": ("evening", "number", "number"), "unhear": ("evening", "number"), "drop": ("evening", "number"),
    "undo": ("evening",), "redo": ("evening",), "open": ("evening",), "sure": ("evening",),
    "lies": ("evening", "number"), "left": ("evening",), "next": ("evening",),
}


def read_line(kept, line):
    """The first word of a line, and what those behind it tell, by the values that are kept."""
    words = Words(line)
    first = words.take_one(list(LINES))
    told = [read_told(kept, words, wanted) for wanted in LINES[first]]
    words.end()
    return first, told


def read_told(kept, words, wanted):
    """What the words that stand here tell: of a value that is kept, its name."""
    if wanted == ":":
        return words.take_one((":",))
    if wanted == "new":
        return words.take_fit(is_name)
    if wanted == "name":
        return words.take_one(kept)
    if wanted == "number":
        return words.take_number(0, None)
    if wanted == "numbers":
        return read_numbers(words)
    if wanted == "value":
        return value_in(words)
    if wanted == "wish":
        return wish_in(words)
    return words.take_fit(lambda word: word in kept and kind_of(kept[word]) == wanted)


def read_numbers(words):
    """The integers whose words stand here, to the end; a dash alone stands for none."""
    if words.sees("-"):
        words.skip("-")
        return []
    numbers = [words.take_number(0, None)]
    while words.is_left():
        numbers.append(words.take_number(0, None))
    return numbers
