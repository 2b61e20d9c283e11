"""Mends: which new lines make a wish come true."""

from cornerways.closing import border_links, check_room, legs_of
from cornerways.errors import InvalidLine, InvalidLines, InvalidWish
from cornerways.kinds import is_claimed_cost, is_worded
from cornerways.limits import MOST_LINES
from cornerways.sides import check_borders
from cornerways.sizes import always, least_sets, own_bounds, sets_of, sizes_below

WISHES = (("always", 1), ("at most", 2))


def check_wish(wish):
    """Raises InvalidWish unless it is a wish."""
    if not is_worded(wish, WISHES):
        raise InvalidWish(wish)
    if wish[0] == "at most" and not is_claimed_cost(wish[1]):
        raise InvalidWish(wish)


def check_lines(borders, lines):
    """Raises InvalidLines unless it is a row of lines that can be added one behind the other, and not too many."""
    if not isinstance(lines, tuple):
        raise InvalidLines(None)
    more = borders
    for index, line in enumerate(lines):
        if index >= MOST_LINES:
            raise InvalidLines(index)
        try:
            more = more.add(line)
        except InvalidLine as error:
            raise InvalidLines(index) from error


def mended(borders, lines, chosen):
    """The border book with the chosen ones of these lines, told by their indexes."""
    for index in chosen:
        borders = borders.add(lines[index])
    return borders


def never_above(borders, room, most):
    """Whether the room closes at this cost or less for all sizes for which there is a room."""
    links = border_links(borders)
    # What `dearest` tells would do, but most sets of lines fail for some of the first sizes already.
    for sizes in sizes_below(own_bounds(borders, room)):
        legs = legs_of(room, sizes)
        cost = links.least(legs)
        if legs is not None and (cost is None or cost > most):
            return False
    return True


def holds(borders, room, wish):
    """Whether the wish holds with this border book."""
    return always(borders, room) if wish[0] == "always" else never_above(borders, room, wish[1])


def mending(borders, room, wish, lines):
    """All least sets of the lines, as tuples of their indexes, with which the wish holds."""
    check_borders(borders)
    check_room(room)
    check_wish(wish)
    check_lines(borders, lines)
    indexes = list(range(len(lines)))
    if wish[0] == "at most":
        # No set may have too great a table, not even one that need not be tried.
        for chosen in sets_of(indexes):
            own_bounds(mended(borders, lines, chosen), room)
    return least_sets(indexes, lambda chosen: holds(mended(borders, lines, chosen), room, wish))
