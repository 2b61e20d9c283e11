"""Rooms: round rows of sides, whose lengths hang on sizes."""

from cornerways.errors import InvalidNumber, InvalidSizes, InvalidText
from cornerways.kinds import TURNS, is_integer, number_of
from cornerways.limits import MOST_PLUS, MOST_SIDES, MOST_SIZE

SIDE_LETTERS = ("x", "y", "z")


def plus_of(text):
    """The number that is written as a plus behind a letter, None if it is not written so."""
    if text == "":
        return 0
    number = number_of(text[1:], 1, MOST_PLUS)
    if number is None or text[0] not in "+-":
        return None
    return number if text[0] == "+" else -number


def plus_text(plus):
    """What is written as a plus behind a letter."""
    return "" if plus == 0 else f"{plus:+d}"


def side_of(text):
    """The triple (letter, plus, turn) of a side's text, None if it is no such text."""
    words = text.split(" ")
    if len(words) != 2 or words[0][:1] not in SIDE_LETTERS or words[1] not in TURNS:
        return None
    plus = plus_of(words[0][1:])
    if plus is None:
        return None
    return (words[0][0], plus, words[1])


def sides_of(text):
    """The tuple of the sides of a room's text, None if it is no such text."""
    if not isinstance(text, str):
        return None
    sides = tuple([side_of(part) for part in text.split(", ")])
    if len(sides) > MOST_SIDES or None in sides:
        return None
    return sides


def check_sizes(sizes, many):
    """Raises InvalidSizes unless it is a row of so many sizes."""
    if not isinstance(sizes, tuple):
        raise InvalidSizes(None)
    for index, size in enumerate(sizes):
        if index >= many or not is_integer(size, 0, MOST_SIZE):
            raise InvalidSizes(index)
    if len(sizes) < many:
        raise InvalidSizes(None)


def lengths_of(room, sizes):
    """The tuple of the lengths of the sides for right sizes, also for greater ones, None if there is no room."""
    numbers = dict(zip(room.letters, sizes))
    lengths = tuple([numbers[letter] + plus for letter, plus, turn in room.sides])
    return None if min(lengths) < 0 else lengths


class Room:
    """A room, made from its text."""

    def __init__(self, text):
        sides = sides_of(text)
        if sides is None:
            raise InvalidText(text)
        self.whole = text
        self.rows = sides
        self.alphabet = "".join(sorted({side[0] for side in sides}))

    @staticmethod
    def oblong(by=0):
        """The room with the sides x, y, x, y, each with this plus, and four outer corners."""
        if not is_integer(by, -MOST_PLUS, MOST_PLUS):
            raise InvalidNumber(by)
        plus = plus_text(by)
        return Room(", ".join([f"{letter}{plus} out" for letter in "xyxy"]))

    @property
    def text(self):
        """The text of the room."""
        return self.whole

    @property
    def sides(self):
        """The tuple of the triples (letter, plus, turn)."""
        return self.rows

    @property
    def letters(self):
        """The letters that stand in the room, an ascending string."""
        return self.alphabet

    def lengths(self, sizes):
        """The tuple of the lengths of the sides, None if there is no room for these sizes."""
        check_sizes(sizes, len(self.alphabet))
        return lengths_of(self, sizes)

    def __eq__(self, other):
        return isinstance(other, Room) and self.whole == other.whole

    def __str__(self):
        return str(self.whole)

    def __len__(self):
        return len(self.rows)
