"""The checker: whether a paper proves a claim.

It takes claims and papers for nothing but values of any kind, and asks each part of them before it uses it.
"""

from cornerways.closing import Links, legs_of
from cornerways.errors import InvalidText
from cornerways.kinds import is_among, is_any_integer, is_integer, is_integer_from, is_row, is_worded
from cornerways.limits import MOST_PLUS
from cornerways.motifs import Borders
from cornerways.rooms import Room
from cornerways.sides import NO_COST, walked
from cornerways.sizes import sizes_below

CLAIMS = (("closes", 5), ("at least", 5), ("not", 4), ("always", 3), ("fails", 3), ("unlike", 4))


def borders_of(text):
    """The border book with this text, None if it is no text of one."""
    try:
        return Borders(text)
    except InvalidText:
        return None


def room_of(text):
    """The room with this text, None if it is no text of one."""
    try:
        return Room(text)
    except InvalidText:
        return None


def are_sizes(room, value):
    """Whether a value is sizes for the room, of any greatness."""
    return is_row(value, len(room.letters)) and all([is_integer_from(size, 0) for size in value])


def legs_for(room, value):
    """The legs if a value is sizes for which there is a room, otherwise None."""
    return legs_of(room, value) if are_sizes(room, value) else None


def is_filling(borders, value):
    """Whether a value is a row of steps, with as many and as great ones as there may be."""
    names = [piece[0] for piece in borders.pieces]
    return isinstance(value, tuple) and all([is_integer_from(step, 1) or is_among(step, names) for step in value])


def behind_leg(borders, state, leg, side):
    """The pair of the state behind a side with its corner and of their cost, None if they do not go on this leg."""
    if not is_row(side, 2) or not is_filling(borders, side[0]):
        return None
    filling, index = side
    told = walked(borders, state, filling)
    if told is None or not is_integer(index, 0, len(borders.corners) - 1):
        return None
    end, length, cost = told
    name, turn, begin, behind, more = borders.corners[index]
    if (length, turn) != leg or begin != end:
        return None
    return (behind, cost + more)


def border_cost(borders, legs, border):
    """The cost of a border with these legs, None if the value is no such border or there are no legs."""
    if legs is None or not is_row(border, 2):
        return None
    begin, sides = border
    if not is_among(begin, borders.states) or not is_row(sides, len(legs)):
        return None
    state, total = begin, 0
    for leg, side in zip(legs, sides):
        told = behind_leg(borders, state, leg, side)
        if told is None:
            return None
        state = told[0]
        total += told[1]
    return total if state == begin else None


def are_prices(value, many):
    """Whether a value is a row of prices, integers or None, for so many states."""
    return is_row(value, many) and all([price is None or is_any_integer(price) for price in value])


def follows(row, link, behind):
    """Whether the prices behind a leg are nowhere greater than those ahead of it and the costs of the leg together."""
    for price, column in zip(behind, link):
        for ahead, cost in zip(row, column):
            reached = ahead is not None and cost < NO_COST
            if reached and (price is None or price > ahead + cost):
                return False
    return True


def is_price_list(links, begin, cost, value):
    """Whether a value is a price list by which no border with this begin costs less; by cost None, there is none."""
    many = len(links[0])
    if not is_row(value, len(links) + 1) or not all([are_prices(row, many) for row in value]):
        return False
    first, last = value[0][begin], value[-1][begin]
    if first is None or first > 0:
        return False
    if last is not None and (cost is None or last < cost):
        return False
    return all([follows(row, link, behind) for row, link, behind in zip(value, links, value[1:])])


def are_price_lists(borders, legs, cost, value):
    """Whether there is a room and a value is a paper that no border costs less; by cost None, that there is none."""
    if legs is None or not is_row(value, len(borders.states)):
        return False
    links = Links(borders, borders.states)
    told = [links.link(leg) for leg in legs]
    return all([is_price_list(told, begin, cost, price_list) for begin, price_list in enumerate(value)])


def proves_sizes(claim, borders, room, paper):
    """Whether a paper proves a claim about told sizes: "closes", "at least" or "not"."""
    legs = legs_for(room, claim[3])
    if claim[0] == "not":
        return are_price_lists(borders, legs, None, paper)
    if not is_integer_from(claim[4], 0):
        return False
    if claim[0] == "at least":
        return are_price_lists(borders, legs, claim[4], paper)
    cost = border_cost(borders, legs, paper)
    return cost is not None and cost <= claim[4]


def sizes_to_show(borders, room):
    """The sizes for which there is a room from which all others come by whole motifs of plain steps more."""
    bounds = [MOST_PLUS + len(borders.signs)] * len(room.letters)
    return [sizes for sizes in sizes_below(bounds) if legs_of(room, sizes) is not None]


def proves_always(borders, room, paper):
    """Whether a paper has all the sizes that are to be shown, each once and with a border."""
    wanted = sizes_to_show(borders, room)
    if not is_row(paper, len(wanted)):
        return False
    told = {}
    for pair in paper:
        if not is_row(pair, 2) or not are_sizes(room, pair[0]):
            return False
        told[pair[0]] = pair[1]
    return all([sizes in told and border_cost(borders, legs_of(room, sizes), told[sizes]) is not None
                for sizes in wanted])


def proves_fails(borders, room, paper):
    """Whether a paper tells sizes for which there is a room, and that there is no border of them."""
    return is_row(paper, 2) and are_price_lists(borders, legs_for(room, paper[0]), None, paper[1])


def proves_unlike(one, other, room, paper):
    """Whether a paper tells a border of some sizes with the cheaper one, and that the dearer one has none so cheap."""
    if not is_row(paper, 4) or not is_integer(paper[1], 0, 1):
        return False
    sizes, dear, border, prices = paper
    legs = legs_for(room, sizes)
    cheaper, dearer = (other, one) if dear == 0 else (one, other)
    cost = border_cost(cheaper, legs, border)
    return cost is not None and are_price_lists(dearer, legs, cost + 1, prices)


def accepts(claim, paper):
    """Whether `claim` is a claim for the checker and `paper` is one for it."""
    if not is_worded(claim, CLAIMS):
        return False
    borders, room = borders_of(claim[1]), room_of(claim[3] if claim[0] == "unlike" else claim[2])
    if borders is None or room is None:
        return False
    if claim[0] == "always":
        return proves_always(borders, room, paper)
    if claim[0] == "fails":
        return proves_fails(borders, room, paper)
    if claim[0] == "unlike":
        other = borders_of(claim[2])
        return other is not None and proves_unlike(borders, other, room, paper)
    return proves_sizes(claim, borders, room, paper)
