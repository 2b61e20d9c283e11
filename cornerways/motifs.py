"""Border books: a motif, its pieces and its corners."""

from cornerways.errors import InvalidLine, InvalidNames, InvalidText
from cornerways.kinds import TURNS, is_among, is_letters, is_word, number_of
from cornerways.limits import MOST_CORNERS, MOST_COST, MOST_LONG, MOST_NAMES, MOST_PIECES, MOST_SIGNS


def signs_of(line):
    """The signs that the line of a motif tells, None if it is no such line."""
    words = line.split(" ")
    if len(words) != 2 or words[0] != "signs" or not is_letters(words[1], MOST_SIGNS):
        return None
    return words[1]


def states_of(signs):
    """The ascending tuple of all states of the motif with these signs."""
    return tuple([f"{phase}{way}" for phase in range(len(signs)) for way in "<>"])


def piece_of(line, states):
    """The tuple (name, from, to, length, cost) of a piece's line, None if it is no such line."""
    words = line.split(" ")
    if len(words) != 8 or [words[0], words[4], words[6]] != ["piece", "long", "cost"]:
        return None
    name, begin, end = words[1:4]
    length = number_of(words[5], 1, MOST_LONG)
    cost = number_of(words[7], 0, MOST_COST)
    if not is_word(name) or begin not in states or end not in states or length is None or cost is None:
        return None
    return (name, begin, end, length, cost)


def corner_of(line, states):
    """The tuple (name, turn, from, to, cost) of a corner's line, None if it is no such line."""
    words = line.split(" ")
    if len(words) != 7 or [words[0], words[5]] != ["corner", "cost"]:
        return None
    name, turn, begin, end = words[1:5]
    cost = number_of(words[6], 0, MOST_COST)
    if not is_word(name) or turn not in TURNS or begin not in states or end not in states or cost is None:
        return None
    return (name, turn, begin, end, cost)


def names_of(rows):
    """The ascending tuple of the different names of pieces or of corners."""
    return tuple(sorted({row[0] for row in rows}))


def pieces_fit(pieces):
    """Whether each of them is a piece, and a border book may have them all."""
    if len(pieces) > MOST_PIECES or None in pieces:
        return False
    return len(names_of(pieces)) == len(pieces)


def corners_fit(corners):
    """Whether each of them is a corner, and a border book may have them all."""
    if len(corners) > MOST_CORNERS or None in corners:
        return False
    return len(set(corners)) == len(corners) and len(names_of(corners)) <= MOST_NAMES


def parts_of(text):
    """The tuple (signs, pieces, corners) of a border book's text, None if it is no such text."""
    if not isinstance(text, str):
        return None
    lines = text.split("\n")
    signs = signs_of(lines[0])
    if signs is None:
        return None
    states = states_of(signs)
    # So many lines behind the motif have to be pieces: one behind a corner makes a corner stand among them.
    behind = 1 + len([line for line in lines[1:] if line.startswith("piece ")])
    pieces = tuple([piece_of(line, states) for line in lines[1:behind]])
    corners = tuple([corner_of(line, states) for line in lines[behind:]])
    if not pieces_fit(pieces) or not corners_fit(corners):
        return None
    return (signs, pieces, corners)


def check_names(names, known):
    """Raises InvalidNames unless it is a row of different ones of the known names."""
    if not isinstance(names, tuple):
        raise InvalidNames(None)
    for index, name in enumerate(names):
        if not is_among(name, known) or name in names[:index]:
            raise InvalidNames(index)


class Borders:
    """A border book, made from its text."""

    def __init__(self, text):
        parts = parts_of(text)
        if parts is None:
            raise InvalidText(text)
        self.whole = text
        self.motif, self.piece_rows, self.corner_rows = parts
        self.all_states = states_of(self.motif)
        self.corner_names = names_of(self.corner_rows)

    @property
    def text(self):
        """The text of the border book."""
        return self.whole

    @property
    def signs(self):
        """The signs of the motif, a string."""
        return self.motif

    @property
    def states(self):
        """The ascending tuple of all states."""
        return self.all_states

    @property
    def pieces(self):
        """The tuple of the tuples (name, from, to, length, cost)."""
        return self.piece_rows

    @property
    def corners(self):
        """The tuple of the tuples (name, turn, from, to, cost)."""
        return self.corner_rows

    @property
    def names(self):
        """The ascending tuple of the names of corners."""
        return self.corner_names

    def add(self, line):
        """The border book with one more line, a piece or a corner."""
        if not isinstance(line, str) or "\n" in line:
            raise InvalidLine(line)
        lines = self.whole.split("\n")
        if line.startswith("piece "):
            lines.insert(1 + len(self.piece_rows), line)
        else:
            lines.append(line)
        text = "\n".join(lines)
        if parts_of(text) is None:
            raise InvalidLine(line)
        return Borders(text)

    def only(self, names):
        """The border book with those corners alone that have one of these names."""
        check_names(names, self.corner_names)
        lines = self.whole.split("\n")
        behind = 1 + len(self.piece_rows)
        kept = [line for line, corner in zip(lines[behind:], self.corner_rows) if corner[0] in names]
        return Borders("\n".join(lines[:behind] + kept))

    def __eq__(self, other):
        return isinstance(other, Borders) and self.whole == other.whole

    def __str__(self):
        return str(self.whole)
