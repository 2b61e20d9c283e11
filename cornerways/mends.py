"""Mends: which new lines make a wish come true."""

from cornerways.closing import check_room
from cornerways.errors import InvalidLine, InvalidLines, InvalidWish
from cornerways.kinds import is_claimed_cost, is_worded
from cornerways.limits import MOST_LINES
from cornerways.sides import check_borders
from cornerways.sizes import always, dearest, least_sets, own_bounds, sets_of

WISHES = (("always", 1), ("at most", 2))


def check_wish(wish):
    """Raises InvalidWish unless it is a wish."""
    if not is_worded(wish, WISHES):
        raise InvalidWish(wish)
    if wish[0] == "at most" and not is_claimed_cost(wish[1]):
        raise InvalidWish(wish)


def check_lines(borders, lines):
    """Raises InvalidLines unless it is a row of lines that can be added one behind the other, and not too many."""
    if not isinstance(lines, tuple):
        raise InvalidLines(None)
    more = borders
    for index, line in enumerate(lines):
        if index >= MOST_LINES:
            raise InvalidLines(index)
        try:
            more = more.add(line)
        except InvalidLine as error:
            raise InvalidLines(index) from error


def mended(borders, lines, chosen):
    """The border book with the chosen ones of these lines, told by their indexes."""
    for index in chosen:
        borders = borders.add(lines[index])
    return borders


def holds(borders, room, wish):
    """Whether the wish holds with this border book."""
    if not always(borders, room):
        return False
    return wish[0] == "always" or dearest(borders, room)[0] <= wish[1]


def mending(borders, room, wish, lines):
    """All least sets of the lines, as tuples of their indexes, with which the wish holds."""
    check_borders(borders)
    check_room(room)
    check_wish(wish)
    check_lines(borders, lines)
    indexes = list(range(len(lines)))
    if wish[0] == "at most":
        # No set may have too great a table, not even one that need not be tried.
        for chosen in sets_of(indexes):
            own_bounds(mended(borders, lines, chosen), room)
    return least_sets(indexes, lambda chosen: holds(mended(borders, lines, chosen), room, wish))
