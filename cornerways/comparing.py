"""Comparing: two border books held against each other for all sizes of a room."""

from cornerways.closing import check_room
from cornerways.sides import calendar, check_borders
from cornerways.sizes import check_table, costs_below, table_bounds


def common_period(one, other):
    """The least number of plain steps that are whole motifs of both."""
    period = len(one.signs)
    while period % len(other.signs) != 0:
        period += len(one.signs)
    return period


def costs_of_both(one, other, room):
    """The triples (sizes, least cost with the one, least cost with the other) of the table of both, in its order."""
    check_borders(one)
    check_borders(other)
    check_room(room)
    since = max(calendar(one), calendar(other))
    bounds = table_bounds(room, since, common_period(one, other))
    check_table(bounds)
    costs = costs_below(one, room, bounds)
    other_costs = costs_below(other, room, bounds)
    return [(sizes, costs[sizes], other_costs[sizes]) for sizes in costs]


def alike(one, other, room):
    """Whether the least costs are the same for all sizes."""
    return parting(one, other, room) is None


def parting(one, other, room):
    """The least sizes for which the least costs are unlike, None if there are none."""
    for sizes, cost, other_cost in costs_of_both(one, other, room):
        if cost != other_cost:
            return sizes
    return None


def never_dearer(one, other, room):
    """Whether the one closes for all sizes for which the other does, at a cost that is not greater."""
    return all([cost is not None and cost <= other_cost for sizes, cost, other_cost in costs_of_both(one, other, room)
                if other_cost is not None])
