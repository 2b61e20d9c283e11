"""Closing: what a border of told sizes costs at least, and how many borders there are."""

from cornerways.errors import NotARoom, TooMany
from cornerways.limits import MOST_WAYS
from cornerways.rooms import Room, check_sizes, lengths_of
from cornerways.sides import NO_COST, Prices, check_borders, cost_or_none, steps_into


def check_room(room):
    """Raises NotARoom unless it is a room."""
    if not isinstance(room, Room):
        raise NotARoom(room)


def arrivals_of(borders):
    """The ascending tuple of the states to which corners lead: no side of a border goes from another one."""
    return tuple(sorted({corner[3] for corner in borders.corners}))


def legs_of(room, sizes):
    """The pairs (length, turn) of the sides with the corners behind them, None if there is no room."""
    lengths = lengths_of(room, sizes)
    if lengths is None:
        return None
    return [(length, side[2]) for length, side in zip(lengths, room.sides)]


def checked_legs(borders, room, sizes):
    """The legs of right arguments; raises the error of the first one that is not right."""
    check_borders(borders)
    check_room(room)
    check_sizes(sizes, len(room.letters))
    return legs_of(room, sizes)


def rows_behind(begin, links):
    """The least costs to all places from this one: at first, then behind each of the links."""
    rows = [[0 if at == begin else NO_COST for at in range(len(links[0]))]]
    for link in links:
        rows.append([min([cost + more for cost, more in zip(rows[-1], column)]) for column in link])
    return rows


def back_costs(rounds):
    """For each place as begin the least cost of leading back to it."""
    return [rows[-1][begin] for begin, rows in enumerate(rounds)]


class Links:
    """The least costs of legs: sides with the corners behind them.

    The places, states with which legs begin and end, are told by their indexes here. The link of a leg has a column
    for each place behind it, and a column has a cost for each place ahead of it. For borders the arrivals are places
    enough.
    """

    def __init__(self, borders, places):
        self.joints = borders.corners
        self.places = places
        self.prices = [Prices(borders, state) for state in places]
        self.kept = {}

    def leg_cost(self, prices, length, corner):
        """The least cost of a filling with this length and this corner."""
        return prices.cost(length, corner[2]) + corner[4]

    def column(self, leg, end):
        """The least costs of the leg from each place to this state."""
        length, turn = leg
        joints = [corner for corner in self.joints if corner[1] == turn and corner[3] == end]
        return [min([NO_COST] + [self.leg_cost(prices, length, corner) for corner in joints])
                for prices in self.prices]

    def link(self, leg):
        """The link of a leg."""
        if leg not in self.kept:
            self.kept[leg] = [self.column(leg, end) for end in self.places]
        return self.kept[leg]

    def rounds(self, legs):
        """For each place as begin the least costs at first and behind each leg."""
        links = [self.link(leg) for leg in legs]
        return [rows_behind(begin, links) for begin in range(len(self.places))]

    def least(self, legs):
        """The least cost of a border with these legs, None if there is none or no room for them."""
        if legs is None:
            return None
        return cost_or_none(min([NO_COST] + back_costs(self.rounds(legs))))

    def last_leg(self, leg, ahead, end, cost):
        """The place ahead of a leg, and its corner, with which the leg leads to a place at this cost."""
        return [(begin, index) for begin, prices in enumerate(self.prices) for index, corner in enumerate(self.joints)
                if corner[1] == leg[1] and corner[3] == self.places[end]
                and ahead[begin] + self.leg_cost(prices, leg[0], corner) == cost][0]

    def border(self, legs):
        """A border with these legs at the least cost; there is one."""
        rounds = self.rounds(legs)
        costs = back_costs(rounds)
        begin = costs.index(min(costs))
        rows, state, told = rounds[begin], begin, []
        for at in reversed(range(len(legs))):
            ahead, index = self.last_leg(legs[at], rows[at], state, rows[at + 1][state])
            told.append((self.prices[ahead].filling(legs[at][0], self.joints[index][2]), index))
            state = ahead
        return (self.places[begin], tuple(told[::-1]))


def border_links(borders):
    """The links that borders need."""
    return Links(borders, arrivals_of(borders))


def least_cost(borders, room, sizes):
    """The least cost of a border of these sizes, None if there is none or no room."""
    legs = checked_legs(borders, room, sizes)
    return border_links(borders).least(legs)


def least_border(borders, room, sizes):
    """A border of these sizes with the least cost, None if there is none or no room."""
    legs = checked_legs(borders, room, sizes)
    links = border_links(borders)
    return None if links.least(legs) is None else links.border(legs)


def counts_from(borders, begin, longest):
    """For each length up to the longest: how many fillings lead from this state to each state."""
    steps = steps_into(borders)
    rows = [{state: 1 if state == begin else 0 for state in borders.states}]
    for length in range(1, longest + 1):
        rows.append({
            end: sum([rows[length - long][ahead] for step, ahead, long, cost in steps[end] if long <= length])
            for end in steps})
    return rows


def ways_behind(borders, counts, ways_ahead, leg):
    """In how many ways each arrival is reached behind a leg, if they are reached in so many ways ahead of it."""
    length, turn = leg
    reached = {state: 0 for state in counts}
    for name, way, ahead, behind, cost in borders.corners:
        if way == turn:
            reached[behind] += sum([ways_ahead[state] * counts[state][length][ahead] for state in counts])
    return reached


def ways_round(borders, counts, legs, begin):
    """How many borders with these legs begin with this state."""
    reached = {state: 1 if state == begin else 0 for state in counts}
    for leg in legs:
        reached = ways_behind(borders, counts, reached, leg)
    return reached[begin]


def ways(borders, room, sizes):
    """How many borders of these sizes there are, each plain step taken by itself."""
    legs = checked_legs(borders, room, sizes)
    if legs is None:
        return 0
    longest = max([leg[0] for leg in legs])
    if longest > MOST_WAYS:
        raise TooMany(MOST_WAYS)
    counts = {state: counts_from(borders, state, longest) for state in arrivals_of(borders)}
    return sum([ways_round(borders, counts, legs, state) for state in counts])
