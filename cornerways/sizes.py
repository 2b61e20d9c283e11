"""Sizes: for which ones of all sizes a room closes, at which costs, and with which corners."""

from cornerways.closing import border_links, check_room, legs_of
from cornerways.errors import OtherLetters, TooMany
from cornerways.limits import MOST_SIZE, MOST_TABLE
from cornerways.sides import calendar, check_borders, check_number


def check_inner(room, inner):
    """Raises NotARoom unless it is a room, OtherLetters unless just the letters of the other one stand in it."""
    check_room(inner)
    if inner.letters != room.letters:
        raise OtherLetters()


def least_plus(room, letter):
    """The least plus of the sides with this letter."""
    return min([side[1] for side in room.sides if side[0] == letter])


def first_numbers(room):
    """For each letter the least number for which there is a room."""
    return [max(0, -least_plus(room, letter)) for letter in room.letters]


def first_sizes(borders, room):
    """The sizes with the numbers of one motif from the first ones on, the least sizes first.

    With a motif more of plain steps a room that closes still does: the least sizes that fail are among these.
    """
    firsts = first_numbers(room)
    return [tuple([first + number for first, number in zip(firsts, more)])
            for more in sizes_below([len(borders.signs)] * len(firsts))]


def table_bounds(room, since, period):
    """For each letter the first number beyond the table, if side costs come again after so much from there on."""
    return tuple([period + max(0, since - least_plus(room, letter)) for letter in room.letters])


def check_table(bounds):
    """Raises TooMany if the table with these bounds has too many sizes."""
    many = 1
    for bound in bounds:
        many *= bound
    if many > MOST_TABLE:
        raise TooMany(MOST_TABLE)


def sizes_below(bounds):
    """All sizes with each number below its bound: the least ones first, by their sum and then as tuples."""
    rows = [()]
    for bound in bounds:
        rows = [row + (number,) for row in rows for number in range(bound)]
    return sorted(rows, key=sum)


def own_bounds(borders, room):
    """The bounds of the table of a border book and a room; raises TooMany."""
    bounds = table_bounds(room, calendar(borders), len(borders.signs))
    check_table(bounds)
    return bounds


def costs_below(borders, room, bounds):
    """For all sizes below the bounds, in their order, the least cost, None if there is no border or no room."""
    links = border_links(borders)
    return {sizes: links.least(legs_of(room, sizes)) for sizes in sizes_below(bounds)}


def folded(sizes, bounds, period):
    """The sizes below the bounds that do what these sizes do."""
    return tuple([number if number < bound else bound - period + (number - bound) % period
                  for number, bound in zip(sizes, bounds)])


def many_like(sizes, bounds, period, top):
    """How many sizes with numbers up to the top do what these sizes below the bounds do."""
    many = 1
    for number, bound in zip(sizes, bounds):
        if number > top:
            return 0
        # Only the last numbers below a bound stand for greater ones, too.
        many *= 1 if number < bound - period else (top - number) // period + 1
    return many


def always(borders, room):
    """Whether the room closes for all sizes for which there is a room."""
    return failing(borders, room) is None


def failing(borders, room):
    """The least sizes for which there is a room and no border, None if there are none."""
    check_borders(borders)
    check_room(room)
    links = border_links(borders)
    for sizes in first_sizes(borders, room):
        if links.least(legs_of(room, sizes)) is None:
            return sizes
    return None


def dearest(borders, room):
    """The greatest least cost, and the least sizes with it, None if the room closes for no sizes."""
    check_borders(borders)
    check_room(room)
    best = None
    for sizes, cost in costs_below(borders, room, own_bounds(borders, room)).items():
        if cost is not None and (best is None or cost > best[0]):
            best = (cost, sizes)
    return best


def count_closing(borders, room, top):
    """How many sizes with numbers up to the top there are for which the room closes."""
    check_borders(borders)
    check_room(room)
    check_number(top, MOST_SIZE)
    bounds, period = own_bounds(borders, room), len(borders.signs)
    costs = costs_below(borders, room, bounds)
    return sum([many_like(sizes, bounds, period, top) for sizes in costs if costs[sizes] is not None])


def count_both(borders, room, inner, top):
    """How many sizes with numbers up to the top there are for which both rooms close."""
    check_borders(borders)
    check_room(room)
    check_inner(room, inner)
    check_number(top, MOST_SIZE)
    period = len(borders.signs)
    outer_bounds, inner_bounds = own_bounds(borders, room), own_bounds(borders, inner)
    outer_costs = costs_below(borders, room, outer_bounds)
    inner_costs = costs_below(borders, inner, inner_bounds)
    bounds = tuple([max(pair) for pair in zip(outer_bounds, inner_bounds)])
    return sum([many_like(sizes, bounds, period, top) for sizes in sizes_below(bounds)
                if outer_costs[folded(sizes, outer_bounds, period)] is not None
                and inner_costs[folded(sizes, inner_bounds, period)] is not None])


def sets_of(members):
    """All sets of these members, as tuples in the order of the members, ordered by length, then as tuples."""
    sets = [()]
    for member in members:
        sets = sets + [row + (member,) for row in sets]
    return sorted(sorted(sets), key=len)


def is_within(part, members):
    """Whether each member of this part is one of those."""
    return all([member in members for member in part])


def least_sets(members, does):
    """The least sets of these members with which `does` tells True, as ascending tuples, ordered like all sets."""
    least = []
    for chosen in sets_of(members):
        # A set has more members than its parts, so these come ahead of it.
        if not any([is_within(part, chosen) for part in least]) and does(chosen):
            least.append(chosen)
    return tuple(least)


def closes_for(borders, room, wanted):
    """Whether the room closes for all of these sizes."""
    links = border_links(borders)
    for sizes in wanted:
        if links.least(legs_of(room, sizes)) is None:
            return False
    return True


def enough(borders, room):
    """All least sets of names of corners with which alone the room closes for all sizes for which it does with all."""
    check_borders(borders)
    check_room(room)
    costs = costs_below(borders, room, own_bounds(borders, room))
    wanted = [sizes for sizes in costs if costs[sizes] is not None]
    return least_sets(borders.names, lambda names: closes_for(borders.only(names), room, wanted))
