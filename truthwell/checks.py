"""What counts as an integer and as a name, for any values."""

LETTERS = "abcdefghijklmnopqrstuvwxyz"
DIGITS = "0123456789"


def is_integer(value):
    """Whether a value is an integer; True and False are none."""
    return isinstance(value, int) and not isinstance(value, bool)


def is_within(value, least, most):
    """Whether a value is an integer from least to most; None stands for no bound."""
    if not is_integer(value):
        return False
    return (least is None or least <= value) and (most is None or value <= most)


def is_name(value):
    """Whether a value is a name: 1 to 12 small letters and digits, a letter first."""
    if not isinstance(value, str) or not 1 <= len(value) <= 12:
        return False
    return value[0] in LETTERS and all([sign in LETTERS + DIGITS for sign in value])
