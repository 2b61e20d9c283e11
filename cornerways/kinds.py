"""What kinds of values there are: integers, words, digits and turns."""

LETTERS = "abcdefghijklmnopqrstuvwxyz"
DIGITS = "0123456789"
LONGEST_WORD = 8
TURNS = ("out", "in")


def is_integer(value, least, most):
    """Whether a value is an integer within these bounds; True and False are none."""
    return isinstance(value, int) and not isinstance(value, bool) and least <= value <= most


def is_letters(text, most):
    """Whether a string is one letter from a to z or more, up to so many."""
    return 1 <= len(text) <= most and all([sign in LETTERS for sign in text])


def is_word(value):
    """Whether a value is a word."""
    return isinstance(value, str) and is_letters(value, LONGEST_WORD)


def is_among(value, strings):
    """Whether a value is one of these strings."""
    # The kind is asked first: an object of another class may claim to be equal to a string.
    return isinstance(value, str) and value in strings


def number_of(text, least, most):
    """The number that is written as one digit; None if it is not, or not within these bounds."""
    if len(text) != 1 or text not in DIGITS or not least <= int(text) <= most:
        return None
    return int(text)
