"""Texts are read word by word, so that the first word that cannot stand is known."""

from truthwell.checks import DIGITS
from truthwell.checks import is_within
from truthwell.errors import BadText

MOST_DIGITS = 60


def integer_of(word):
    """The integer that is written so; None for any other word."""
    digits = word[1:] if word[:1] == "-" else word
    if not 1 <= len(digits) <= MOST_DIGITS or any([sign not in DIGITS for sign in digits]):
        return None
    # str writes neither "-0" nor zeros ahead of other digits.
    if digits[0] == "0" and word != "0":
        return None
    return int(word)


class Words:
    """The words of a text, and which one is read now."""

    def __init__(self, text):
        if not isinstance(text, str):
            raise BadText(0, 0)
        self.words = text.split(" ")
        self.at = 0

    def refuse(self):
        """The word read now cannot stand; behind the last one, a word is missing."""
        raise BadText(0, self.at)

    def is_left(self):
        """Whether a word is left."""
        return self.at < len(self.words)

    def sees(self, word):
        """Whether this word is read now."""
        return self.is_left() and self.words[self.at] == word

    def skip(self, word):
        """Goes behind this word, which must stand here."""
        if not self.sees(word):
            self.refuse()
        self.at += 1

    def take_one(self, table):
        """The word of a table that must stand here."""
        if not self.is_left() or self.words[self.at] not in table:
            self.refuse()
        self.at += 1
        return self.words[self.at - 1]

    def take_fit(self, is_fit):
        """The word, one that a function tells to be fit, that must stand here."""
        if not self.is_left() or not is_fit(self.words[self.at]):
            self.refuse()
        self.at += 1
        return self.words[self.at - 1]

    def take_number(self, least, most):
        """The integer, from least to most, that must stand here; None stands for no bound."""
        found = integer_of(self.words[self.at]) if self.is_left() else None
        if not is_within(found, least, most):
            self.refuse()
        self.at += 1
        return found

    def take_digits(self, least, most, bound):
        """The digits of the word that must stand here: least to most of them, each below the bound."""
        word = self.words[self.at] if self.is_left() else ""
        if not least <= len(word) <= most or any([sign not in DIGITS[:bound] for sign in word]):
            self.refuse()
        self.at += 1
        return [int(sign) for sign in word]

    def end(self):
        """No word may be left."""
        if self.is_left():
            self.refuse()
