"""Papers: claims that hold, with what the checker needs to see it."""

from cornerways.checker import sizes_to_show
from cornerways.closing import Links, border_links, least_border, least_cost, legs_of
from cornerways.comparing import parting
from cornerways.sides import cost_or_none, joined
from cornerways.sizes import failing, first_numbers, first_sizes


def price_lists(borders, room, sizes):
    """The price lists for sizes for which there is a room: the least costs from each state as begin."""
    links = Links(borders, borders.states)
    return tuple([tuple([tuple([cost_or_none(cost) for cost in row]) for row in rows])
                  for rows in links.rounds(legs_of(room, sizes))])


def lengthened(border, legs, longer):
    """The border with these legs made one with longer ones, by whole motifs of plain steps ahead of its fillings."""
    begin, sides = border
    return (begin, tuple([(joined((more[0] - leg[0],) + filling), corner)
                          for (filling, corner), leg, more in zip(sides, legs, longer)]))


def borders_to_show(borders, room):
    """The pairs of the sizes that are to be shown and of a border of them, if the room closes for all sizes."""
    period = len(borders.signs)
    firsts = first_numbers(room)
    links = border_links(borders)
    known = {sizes: links.border(legs_of(room, sizes)) for sizes in first_sizes(borders, room)}
    pairs = []
    for sizes in sizes_to_show(borders, room):
        least = tuple([first + (number - first) % period for first, number in zip(firsts, sizes)])
        pairs.append((sizes, lengthened(known[least], legs_of(room, least), legs_of(room, sizes))))
    return tuple(pairs)


def paper_of_cost(borders, room, sizes):
    """A paper that there is a border with the least cost, None if there is no border or no room."""
    cost = least_cost(borders, room, sizes)
    if cost is None:
        return None
    return (("closes", borders.text, room.text, sizes, cost), least_border(borders, room, sizes))


def paper_of_floor(borders, room, sizes):
    """A paper that no border costs less than the least cost, or that there is none; None if there is no room."""
    cost = least_cost(borders, room, sizes)
    if room.lengths(sizes) is None:
        return None
    prices = price_lists(borders, room, sizes)
    if cost is None:
        return (("not", borders.text, room.text, sizes), prices)
    return (("at least", borders.text, room.text, sizes, cost), prices)


def paper_of_always(borders, room):
    """A paper that the room closes for all sizes for which there is a room, or that it fails for some."""
    sizes = failing(borders, room)
    if sizes is None:
        return (("always", borders.text, room.text), borders_to_show(borders, room))
    return (("fails", borders.text, room.text), (sizes, price_lists(borders, room, sizes)))


def paper_of_unlike(one, other, room):
    """A paper that least costs are unlike for some sizes, None if both are alike."""
    sizes = parting(one, other, room)
    if sizes is None:
        return None
    cost, other_cost = least_cost(one, room, sizes), least_cost(other, room, sizes)
    one_is_dearer = cost is None or (other_cost is not None and cost > other_cost)
    dear, cheaper, dearer = (0, other, one) if one_is_dearer else (1, one, other)
    return (("unlike", one.text, other.text, room.text),
            (sizes, dear, least_border(cheaper, room, sizes), price_lists(dearer, room, sizes)))
