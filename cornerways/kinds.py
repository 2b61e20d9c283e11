"""What kinds of values there are: integers, rows, words, digits and turns."""

LETTERS = "abcdefghijklmnopqrstuvwxyz"
DIGITS = "0123456789"
LONGEST_WORD = 8
TURNS = ("out", "in")
MOST_CLAIMED = 1000


def is_any_integer(value):
    """Whether a value is an integer; True and False are none."""
    return isinstance(value, int) and not isinstance(value, bool)


def is_integer_from(value, least):
    """Whether a value is an integer from this one on."""
    return is_any_integer(value) and least <= value


def is_integer(value, least, most):
    """Whether a value is an integer within these bounds."""
    return is_any_integer(value) and least <= value <= most


def is_claimed_cost(value):
    """Whether a value is a cost that a claim of a book or a wish may tell."""
    return is_integer(value, 0, MOST_CLAIMED)


def is_row(value, many):
    """Whether a value is a row of so many elements."""
    return isinstance(value, tuple) and len(value) == many


def is_letters(text, most):
    """Whether a string is one letter from a to z or more, up to so many."""
    return 1 <= len(text) <= most and all([sign in LETTERS for sign in text])


def is_word(value):
    """Whether a value is a word."""
    return isinstance(value, str) and is_letters(value, LONGEST_WORD)


def is_among(value, strings):
    """Whether a value is one of these strings."""
    # The kind is asked first: an object of another class may claim to be equal to a string.
    return isinstance(value, str) and value in strings


def is_worded(value, forms):
    """Whether a value is a row in one of these forms: the word that stands first, and how many elements there are."""
    if not isinstance(value, tuple) or len(value) == 0:
        return False
    return isinstance(value[0], str) and (value[0], len(value)) in forms


def number_of(text, least, most):
    """The number that is written as one digit; None if it is not, or not within these bounds."""
    if len(text) != 1 or text not in DIGITS or not least <= int(text) <= most:
        return None
    return int(text)
