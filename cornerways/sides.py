"""Sides: plain steps, fillings, and what fillings of all lengths cost."""

from cornerways.errors import InvalidFilling, InvalidNumber, InvalidState, InvalidText, NotBorders
from cornerways.kinds import is_among, is_integer, is_letters
from cornerways.limits import MOST_LONG, MOST_SIZE
from cornerways.motifs import Borders

MOST_SHOWN = 1000
MOST_STEPS = 200
MOST_AT_ONCE = 10 ** 31
# Stands where there is no cost. It is greater than the cost of any border, and so is each sum with it.
NO_COST = 10 ** 6


def check_borders(borders):
    """Raises NotBorders unless it is a border book."""
    if not isinstance(borders, Borders):
        raise NotBorders(borders)


def check_state(borders, state):
    """Raises InvalidState unless it is a state of the motif."""
    if not is_among(state, borders.states):
        raise InvalidState(state)


def check_number(number, most):
    """Raises InvalidNumber unless it is an integer from 0 on up to this one."""
    if not is_integer(number, 0, most):
        raise InvalidNumber(number)


def check_filling(borders, filling):
    """Raises InvalidFilling unless it is a row of steps that is not too long."""
    if not isinstance(filling, tuple):
        raise InvalidFilling(None)
    names = [piece[0] for piece in borders.pieces]
    for index, step in enumerate(filling):
        right = is_integer(step, 1, MOST_AT_ONCE) or is_among(step, names)
        if index >= MOST_STEPS or not right:
            raise InvalidFilling(index)


def state_behind(borders, state, many):
    """The state behind so many plain steps."""
    move = many if state[1] == ">" else -many
    phase = (int(state[0]) + move) % len(borders.signs)
    return f"{phase}{state[1]}"


def signs_behind(borders, state, many):
    """The signs that so many plain steps show."""
    phase = int(state[0])
    motif = borders.signs[phase:] + borders.signs[:phase]
    row = motif if state[1] == ">" else motif[::-1]
    return (row * (many // len(row) + 1))[:many]


def steps_into(borders):
    """For each state the steps that lead to it, as tuples (step, from, length, cost), the plain step first."""
    steps = {state_behind(borders, state, 1): [(1, state, 1, 0)] for state in borders.states}
    for name, begin, end, length, cost in borders.pieces:
        steps[end].append((name, begin, length, cost))
    return steps


def next_row(rows, steps):
    """The least costs to each state of the length behind those of these rows."""
    length = len(rows)
    return {
        end: min([NO_COST] + [rows[length - long][begin] + cost for step, begin, long, cost in steps[end]
                              if long <= length])
        for end in steps}


def joined(steps):
    """The same filling without two integers side by side, and without those of 0."""
    filling = []
    for step in steps:
        if filling and isinstance(step, int) and isinstance(filling[-1], int):
            filling[-1] += step
        elif step != 0:
            filling.append(step)
    return tuple(filling)


def cost_or_none(cost):
    """A cost as it is told: None if there is none."""
    return cost if cost < NO_COST else None


class Prices:
    """The least costs of fillings from one state to each state, for all lengths.

    There is a row of costs for each length. From the length `since` on each row comes again one motif later, so
    the rows up to the end of the first motif from there on tell all of them.
    """

    def __init__(self, borders, begin):
        self.period = len(borders.signs)
        self.steps = steps_into(borders)
        rows = [{state: 0 if state == begin else NO_COST for state in borders.states}]
        again = 0
        # A row hangs on so many rows ahead of it alone: if these come again, all rows behind them do.
        while again < MOST_LONG:
            rows.append(next_row(rows, self.steps))
            same = len(rows) > self.period and rows[-1] == rows[-1 - self.period]
            again = again + 1 if same else 0
        self.since = len(rows) - MOST_LONG - self.period
        self.costs = rows[:self.since + self.period]

    def kept_length(self, length):
        """The length with a row of its own that does what this length does."""
        if length < len(self.costs):
            return length
        return self.since + (length - self.since) % self.period

    def cost(self, length, end):
        """The least cost of a filling with this length to this state, NO_COST if there is none."""
        return self.costs[self.kept_length(length)][end]

    def last_step(self, length, end):
        """The last step (step, from, length) of a filling with the least cost, for a kept length other than 0."""
        cost = self.costs[length][end]
        return [(step, begin, long) for step, begin, long, more in self.steps[end]
                if long <= length and self.costs[length - long][begin] + more == cost][0]

    def filling(self, length, end):
        """A filling with the least cost, None if there is none."""
        left = self.kept_length(length)
        if self.costs[left][end] >= NO_COST:
            return None
        # Whole motifs of plain steps ahead of a filling lead to the state from which it goes.
        ahead = [length - left]
        steps = []
        while left > 0:
            step, end, long = self.last_step(left, end)
            steps.append(step)
            left -= long
        return joined(ahead + steps[::-1])


def shown(borders, begin, many):
    """The string of the signs that so many plain steps show."""
    check_borders(borders)
    check_state(borders, begin)
    check_number(many, MOST_SHOWN)
    return signs_behind(borders, begin, many)


def beginnings(borders, text):
    """The ascending tuple of the states from which plain steps show this text."""
    check_borders(borders)
    right = isinstance(text, str) and (text == "" or is_letters(text, MOST_SHOWN))
    if not right:
        raise InvalidText(text)
    return tuple([state for state in borders.states if signs_behind(borders, state, len(text)) == text])


def walked(borders, begin, filling):
    """What `walk` tells of a right filling, also of one with more steps or greater ones."""
    pieces = {piece[0]: piece[1:] for piece in borders.pieces}
    state, length, cost = begin, 0, 0
    for step in filling:
        if isinstance(step, int):
            state = state_behind(borders, state, step)
            length += step
        else:
            ahead, behind, long, more = pieces[step]
            if ahead != state:
                return None
            state = behind
            length += long
            cost += more
    return (state, length, cost)


def walk(borders, begin, filling):
    """The triple (state behind it, length, cost) of a filling, None if it does not go."""
    check_borders(borders)
    check_state(borders, begin)
    check_filling(borders, filling)
    return walked(borders, begin, filling)


def side_cost(borders, length, begin, end):
    """The least cost of a filling with this length between these states, None if there is none."""
    check_borders(borders)
    check_number(length, MOST_SIZE)
    check_state(borders, begin)
    check_state(borders, end)
    return cost_or_none(Prices(borders, begin).cost(length, end))


def least_filling(borders, length, begin, end):
    """A filling with this length and the least cost between these states, None if there is none."""
    check_borders(borders)
    check_number(length, MOST_SIZE)
    check_state(borders, begin)
    check_state(borders, end)
    return Prices(borders, begin).filling(length, end)


def calendar(borders):
    """The least length from which on all side costs come again one motif later."""
    check_borders(borders)
    return max([Prices(borders, state).since for state in borders.states])
