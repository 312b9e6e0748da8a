"""Texts of papers, word by word."""

from truthwell.checks import LETTERS
from truthwell.checks import is_integer
from truthwell.checks import is_within
from truthwell.errors import BadPaper
from truthwell.paper_kinds import PARTS
from truthwell.paper_kinds import made
from truthwell.paper_kinds import paper_kind
from truthwell.words import MOST_DIGITS
from truthwell.words import Words
from truthwell.words import integer_of

MOST_BRACKETS = 50
MOST_LETTERS = 60
GREAT = "ABCDEFGHIJKLMNOPQRSTUVWXYZ"


def paper_text(paper):
    """The text of a paper; BadPaper for what has none."""
    words = paper_words(paper, 0)
    if words is None:
        raise BadPaper("paper")
    return " ".join(words)


def paper_words(paper, brackets):
    """The words of a paper within so many brackets; None for what has no text."""
    kind = paper_kind(paper)
    if kind is None:
        return None
    words = items_words(paper.parts, brackets)
    return None if words is None else [kind] + words


def items_words(items, brackets):
    """The words of some values, one behind another; None if one has no text."""
    words = []
    for item in items:
        found = item_words(item, brackets)
        if found is None:
            return None
        words.extend(found)
    return words


def item_words(item, brackets):
    """The words of a value in a paper; None for what has no text."""
    if item is None:
        return ["-"]
    if is_integer(item):
        word = number_word(item)
        return None if word is None else [word]
    if isinstance(item, str):
        return [item] if are_letters(item) else None
    if brackets == MOST_BRACKETS:
        return None
    if isinstance(item, tuple):
        return within("(", items_words(item, brackets + 1), ")")
    return within("[", paper_words(item, brackets + 1), "]")


def within(begin, words, end):
    """These words in brackets; None if there are none."""
    return None if words is None else [begin] + words + [end]


def number_word(number):
    """The word of an integer; None for one of too many digits."""
    most = int("9" * MOST_DIGITS)
    return str(number) if is_within(number, -most, most) else None


def are_letters(text):
    """Whether a text is a word of letters that can stand in the text of a paper."""
    return 1 <= len(text) <= MOST_LETTERS and all([sign in LETTERS + GREAT for sign in text])


def read_paper(text):
    """The paper whose text this is."""
    words = Words(text)
    paper = read_kind_and_parts(words, 0)
    words.end()
    return paper


def read_kind_and_parts(words, brackets):
    """The paper whose words stand here, within so many brackets."""
    kind = words.take_one(list(PARTS))
    return made(kind, [read_item(words, brackets) for _ in PARTS[kind]])


def read_item(words, brackets):
    """The value in a paper whose words stand here, within so many brackets."""
    if brackets < MOST_BRACKETS and words.sees("("):
        return read_list(words, brackets)
    if brackets < MOST_BRACKETS and words.sees("["):
        words.skip("[")
        paper = read_kind_and_parts(words, brackets + 1)
        words.skip("]")
        return paper
    return value_of_word(words.take_fit(is_item_word))


def read_list(words, brackets):
    """The list in a paper whose words stand here, within so many brackets."""
    words.skip("(")
    items = []
    while not words.sees(")"):
        items.append(read_item(words, brackets + 1))
    words.skip(")")
    return items


def is_item_word(word):
    """Whether a word alone is the text of a value in a paper."""
    return word == "-" or are_letters(word) or integer_of(word) is not None


def value_of_word(word):
    """The value whose text this word is."""
    if word == "-":
        return None
    return word if are_letters(word) else integer_of(word)
