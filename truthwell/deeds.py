"""Deeds of an evening: what is told of them, and their words."""

from truthwell.checks import is_within
from truthwell.lists import is_list

# How many integers stand behind each word.
DEEDS = {"ask": 1, "hear": 2, "unhear": 1, "forget": 1}


def is_deed(value):
    """Whether a value is a list of the word of a deed and its integers, from 0 on."""
    if not is_list(value) or len(value) == 0 or not isinstance(value[0], str) or value[0] not in DEEDS:
        return False
    return len(value) == 1 + DEEDS[value[0]] and all([is_within(number, 0, None) for number in value[1:]])


def are_deeds(value):
    """Whether a value is a list of deeds."""
    return is_list(value) and all([is_deed(item) for item in value])


def deed_text(deed):
    """The word of a deed and its integers."""
    return " ".join([deed[0]] + [str(number) for number in deed[1:]])


def read_deeds(words):
    """The deeds whose words stand here, up to the end, and the places of their first words."""
    if words.sees("-"):
        words.skip("-")
        words.end()
        return (), []
    places = [words.at]
    deeds = [read_deed(words)]
    while words.is_left():
        words.skip(",")
        places.append(words.at)
        deeds.append(read_deed(words))
    return tuple(deeds), places


def read_deed(words):
    """The deed whose words stand here."""
    word = words.take_one(list(DEEDS))
    return (word,) + tuple([words.take_number(0, None) for _ in range(DEEDS[word])])
