"""Border books and rooms read and searched apart from the package.

Everything here is told by trying: all fillings of a length, all borders of some sizes, all sizes up to a bound.
Costs of longer sides are put together from the first step on, and held against the search of all fillings.
"""

import fractions
import functools
import itertools


class Search:
    """A border book."""

    def __init__(self, text):
        lines = [line.split(" ") for line in text.split("\n")]
        self.signs = lines[0][1]
        self.many = len(self.signs)
        self.states = sorted(f"{phase}{way}" for phase in range(self.many) for way in "<>")
        self.pieces = [(row[1], row[2], row[3], int(row[5]), int(row[7])) for row in lines if row[0] == "piece"]
        self.corners = [(row[1], row[2], row[3], row[4], int(row[6])) for row in lines if row[0] == "corner"]
        self.table = []
        self.count_table = []

    def plain(self, state):
        """The state behind a plain step, and the sign that it shows."""
        phase = int(state[0])
        if state[1] == ">":
            return f"{(phase + 1) % self.many}>", self.signs[phase]
        return f"{(phase - 1) % self.many}<", self.signs[phase - 1]

    def shown(self, state, many):
        signs = ""
        for _ in range(many):
            state, sign = self.plain(state)
            signs += sign
        return signs

    def steps(self, state):
        """The tuples (step, state behind it, length, cost) of the steps that go from a state."""
        rows = [(name, to, long, cost) for name, begin, to, long, cost in self.pieces if begin == state]
        return [(1, self.plain(state)[0], 1, 0)] + rows

    def fillings(self, length, begin):
        """All fillings of a length from a state, plain steps one by one: the triples (row, state behind it, cost)."""
        if length == 0:
            return [((), begin, 0)]
        return [((step, *row), end, cost + more) for step, to, long, cost in self.steps(begin) if long <= length
                for row, end, more in self.fillings(length - long, to)]

    def side_costs(self, length, begin):
        """A dict of the least costs of a length from a state to those to which a filling leads."""
        while len(self.table) <= length:
            at = len(self.table)
            self.table.append({state: self.least_ends(at, state) for state in self.states})
        return self.table[length][begin]

    def least_ends(self, length, begin):
        ends = {begin: 0} if length == 0 else {}
        for step, to, long, cost in self.steps(begin):
            if long <= length:
                for end, more in self.table[length - long][to].items():
                    ends[end] = min(ends.get(end, cost + more), cost + more)
        return ends

    def side_counts(self, length, begin):
        """A dict: how many fillings of a length lead from a state to each."""
        while len(self.count_table) <= length:
            at = len(self.count_table)
            self.count_table.append({state: self.count_ends(at, state) for state in self.states})
        return self.count_table[length][begin]

    def count_ends(self, length, begin):
        ends = {begin: 1} if length == 0 else {}
        for step, to, long, cost in self.steps(begin):
            if long <= length:
                for end, many in self.count_table[length - long][to].items():
                    ends[end] = ends.get(end, 0) + many
        return ends

    def calendar(self, far=140):
        """The least number from which on all side costs come again, as far as is looked."""
        rows = [[self.side_costs(length, state) for state in self.states] for length in range(far + self.many)]
        unlike = [length for length in range(far) if rows[length] != rows[length + self.many]]
        return max(unlike) + 1 if unlike else 0

    def borders(self, sides, sizes):
        """All borders of these sizes, with their costs: the pairs (cost, (begin, sides)), plain steps one by one."""
        return [(cost, (begin, row)) for begin in self.states
                for cost, row, end in self.chains(lengths(sides, sizes), begin) if end == begin]

    def chains(self, legs, begin):
        """All rows of fillings and corners along legs from a state, with their costs and the states behind them."""
        if legs is None:
            return []
        if not legs:
            return [(0, (), begin)]
        return [(cost + self.corners[at][4] + more, ((row, at), *rest), last)
                for row, end, cost in self.fillings(legs[0][0], begin) for at in self.joints(legs[0][1], end)
                for more, rest, last in self.chains(legs[1:], self.corners[at][3])]

    def joints(self, turn, begin):
        """The indexes of the corners with a turn that lead from a state."""
        return [at for at, corner in enumerate(self.corners) if corner[1:3] == (turn, begin)]

    def least(self, sides, sizes):
        """The least cost of a border of these sizes, None if there is none or no room."""
        legs = lengths(sides, sizes)
        if legs is None:
            return None
        costs = [self.behind(legs, begin).get(begin) for begin in self.states]
        return min([cost for cost in costs if cost is not None], default=None)

    def behind(self, legs, begin):
        reached = {begin: 0}
        for length, turn in legs:
            ahead, reached = reached, {}
            for state, cost in ahead.items():
                for end, more in self.side_costs(length, state).items():
                    for at in self.joints(turn, end):
                        total = cost + more + self.corners[at][4]
                        to = self.corners[at][3]
                        reached[to] = min(reached.get(to, total), total)
        return reached

    def ways(self, sides, sizes):
        """How many borders of these sizes there are."""
        legs = lengths(sides, sizes)
        return 0 if legs is None else sum(self.ways_behind(legs, begin).get(begin, 0) for begin in self.states)

    def ways_behind(self, legs, begin):
        reached = {begin: 1}
        for length, turn in legs:
            ahead, reached = reached, {}
            for state, many in ahead.items():
                for end, more in self.side_counts(length, state).items():
                    for at in self.joints(turn, end):
                        to = self.corners[at][3]
                        reached[to] = reached.get(to, 0) + many * more
        return reached


def sides_of(text):
    """The triples (letter, plus, turn) of a room's text."""
    rows = [part.split(" ") for part in text.split(", ")]
    return [(words[0][0], int(words[0][1:] or "0"), words[1]) for words in rows]


def letters_of(text):
    return "".join(sorted({side[0] for side in sides_of(text)}))


def lengths(sides, sizes):
    """The pairs (length, turn) of the sides of these sizes, None if there is no room."""
    numbers = dict(zip(sorted({side[0] for side in sides}), sizes))
    legs = [(numbers[letter] + plus, turn) for letter, plus, turn in sides]
    return None if any(length < 0 for length, turn in legs) else legs


def single(filling):
    """A filling with each plain step by itself."""
    return tuple(step for part in filling for step in ((1,) * part if isinstance(part, int) else (part,)))


def all_sizes(many, top):
    """All sizes with numbers up to the top, by their sum and then as tuples."""
    return sorted(itertools.product(range(top + 1), repeat=many), key=lambda sizes: (sum(sizes), sizes))


class Survey:
    """The least costs of a border book in a room for all sizes with numbers up to the top."""

    def __init__(self, text, room, top):
        searched, self.sides = search(text), sides_of(room)
        self.sizes = all_sizes(len(letters_of(room)), top)
        self.costs = {sizes: searched.least(self.sides, sizes) for sizes in self.sizes}

    def closing(self, top):
        return {sizes for sizes in self.sizes if max(sizes) <= top and self.costs[sizes] is not None}

    def failing(self):
        rows = [sizes for sizes in self.sizes if lengths(self.sides, sizes) is not None and self.costs[sizes] is None]
        return rows[0] if rows else None

    def dearest(self):
        told = [cost for cost in self.costs.values() if cost is not None]
        return (max(told), [sizes for sizes in self.sizes if self.costs[sizes] == max(told)][0]) if told else None

    def parting(self, other):
        rows = [sizes for sizes in self.sizes if self.costs[sizes] != other.costs[sizes]]
        return rows[0] if rows else None

    def never_dearer(self, other):
        return all(self.costs[sizes] is not None and self.costs[sizes] <= other.costs[sizes]
                   for sizes in self.sizes if other.costs[sizes] is not None)


@functools.lru_cache(maxsize=None)
def search(text):
    return Search(text)


def without(text, names):
    """The text of a border book without the corners that have another name."""
    lines = text.split("\n")
    return "\n".join(line for line in lines if line.split(" ")[0] != "corner" or line.split(" ")[1] in names)


def enough(text, room, top):
    """All least sets of names of corners that do for all sizes with numbers up to the top."""
    names = sorted({corner[0] for corner in search(text).corners})
    whole = Survey(text, room, top).closing(top)
    sets = [part for many in range(len(names) + 1) for part in itertools.combinations(names, many)]
    does = [part for part in sets if Survey(without(text, part), room, top).closing(top) == whole]
    return tuple(part for part in does if not any(set(other) < set(part) for other in does))


def grown(counts, at):
    """The value at a place of the polynomial that has these values at 0, 1, 2 .."""
    total = fractions.Fraction(0)
    for k, value in enumerate(counts):
        term = fractions.Fraction(value)
        for j in range(len(counts)):
            if j != k:
                term *= fractions.Fraction(at - j, k - j)
        total += term
    assert total.denominator == 1
    return int(total)


def table_size(text, room, many=None, since=None):
    """How many sizes the table has, as the document tells it."""
    period = many or search(text).many
    since = search(text).calendar() if since is None else since
    total = 1
    for letter in letters_of(room):
        least = min(plus for name, plus, turn in sides_of(room) if name == letter)
        total *= period if least > since else period + since - least
    return total
