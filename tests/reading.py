"""Texts, claims and papers read apart from the package, as the document tells them ([7], [8], [13])."""

import itertools
import re

from search import letters_of, lengths, search, sides_of

SIDE = "[xyz](?:[+-][1-9])? (?:out|in)"

# What stands behind the word: border books, a room, sizes, a cost.
CLAIMS = {"closes": "brsc", "at least": "brsc", "not": "brs", "always": "br", "fails": "br", "unlike": "bbr"}

# No calendar is so great: a longer side costs what a side with the same rest costs that is a little longer than this.
FAR = 120


def is_book_text(text):
    """Whether the document takes this string for a border book's text."""
    lines = text.split("\n")
    if not re.fullmatch("signs [a-z]{1,5}", lines[0]):
        return False
    state = f"[0-{len(lines[0]) - 7}][<>]"
    piece = f"piece ([a-z]{{1,8}}) {state} {state} long [1-6] cost [0-9]"
    corner = f"corner ([a-z]{{1,8}}) (?:out|in) {state} {state} cost [0-9]"
    kinds = "".join("p" if re.fullmatch(piece, line) else "c" if re.fullmatch(corner, line) else "-"
                    for line in lines[1:])
    if not re.fullmatch("p{0,8}c{0,12}", kinds) or len(set(lines)) < len(lines):
        return False
    names = [line.split(" ")[1] for line in lines[1:]]
    many = kinds.count("p")
    return len(set(names[:many])) == many and len(set(names[many:])) <= 4


def is_room_text(text):
    """Whether the document takes this string for a room's text."""
    return re.fullmatch(f"{SIDE}(?:, {SIDE}){{0,11}}", text) is not None


class Unfit(Exception):
    """The value is no claim, or no paper for it."""


def need(truth):
    if not truth:
        raise Unfit


def integer(value):
    return type(value) is int


def row(value, many=None):
    return type(value) is tuple and many in (None, len(value))


def numbers(room, value):
    """Whether a value is sizes for the room."""
    return row(value, len(letters_of(room))) and all(integer(size) and size >= 0 for size in value)


def reads(claim, paper):
    """Whether the document takes the one for a claim for the checker, and the other for a paper for it."""
    try:
        read(claim, paper)
    except Unfit:
        return False
    return True


def read(claim, paper):
    need(row(claim) and claim and type(claim[0]) is str and claim[0] in CLAIMS)
    kinds = CLAIMS[claim[0]]
    need(len(claim) == 1 + len(kinds))
    for kind, value in zip(kinds, claim[1:]):
        if kind == "b":
            need(type(value) is str and is_book_text(value))
        elif kind == "r":
            need(type(value) is str and is_room_text(value))
        elif kind == "s":
            need(numbers(claim[2], value))
        else:
            need(integer(value) and value >= 0)
    READERS[claim[0]](*claim[1:], paper)


def read_closes(text, room, sizes, cost, paper):
    need(read_border(text, room, sizes, paper) <= cost)


def read_at_least(text, room, sizes, cost, paper):
    read_prices(text, room, sizes, cost, paper)


def read_not(text, room, sizes, paper):
    read_prices(text, room, sizes, None, paper)


def read_always(text, room, paper):
    need(row(paper) and all(row(pair, 2) and numbers(room, pair[0]) for pair in paper))
    wanted = [sizes for sizes in itertools.product(range(9 + search(text).many), repeat=len(letters_of(room)))
              if lengths(sides_of(room), sizes) is not None]
    need(sorted(pair[0] for pair in paper) == wanted)
    for sizes, border in paper:
        read_border(text, room, sizes, border)


def read_fails(text, room, paper):
    need(row(paper, 2) and numbers(room, paper[0]))
    read_prices(text, room, paper[0], None, paper[1])


def read_unlike(one, other, room, paper):
    need(row(paper, 4) and numbers(room, paper[0]) and integer(paper[1]) and paper[1] in (0, 1))
    sizes, dear, border, prices = paper
    dearer, cheaper = [(one, other), (other, one)][dear]
    read_prices(dearer, room, sizes, read_border(cheaper, room, sizes, border) + 1, prices)


READERS = {"closes": read_closes, "at least": read_at_least, "not": read_not, "always": read_always,
           "fails": read_fails, "unlike": read_unlike}


def read_border(text, room, sizes, border):
    """The cost of a border."""
    searched, legs = search(text), lengths(sides_of(room), sizes)
    need(legs is not None and row(border, 2) and type(border[0]) is str and border[0] in searched.states)
    need(row(border[1], len(legs)))
    state, total = border[0], 0
    for (length, turn), side in zip(legs, border[1]):
        need(row(side, 2) and row(side[0]) and integer(side[1]) and 0 <= side[1] < len(searched.corners))
        state, long, cost = gone(searched, state, side[0])
        name, way, begin, end, more = searched.corners[side[1]]
        need((long, state) == (length, begin) and way == turn)
        state = end
        total += cost + more
    need(state == border[0])
    return total


def gone(searched, state, filling):
    """The state behind a filling, its length and its cost."""
    length = cost = 0
    for step in filling:
        if integer(step):
            need(step >= 1)
            for _ in range(step % searched.many):
                state = searched.plain(state)[0]
            length += step
        else:
            need(type(step) is str)
            rows = [piece for piece in searched.pieces if piece[0] == step and piece[1] == state]
            need(rows)
            state = rows[0][2]
            length += rows[0][3]
            cost += rows[0][4]
    return state, length, cost


def led(searched, leg, state):
    """The least costs of a leg from a state to those to which it leads."""
    length, turn = leg
    if length > FAR:
        length = FAR + (length - FAR) % searched.many
    ends = {}
    for end, cost in searched.side_costs(length, state).items():
        for at in searched.joints(turn, end):
            to, total = searched.corners[at][3], cost + searched.corners[at][4]
            ends[to] = min(ends.get(to, total), total)
    return ends


def least(text, room, sizes):
    """The least cost of a border of sizes of any greatness, None if there is none or no room."""
    searched, legs, costs = search(text), lengths(sides_of(room), sizes), []
    for begin in searched.states if legs is not None else ():
        reached = {begin: 0}
        for leg in legs:
            ahead, reached = reached, {}
            for state, cost in ahead.items():
                for end, more in led(searched, leg, state).items():
                    reached[end] = min(reached.get(end, cost + more), cost + more)
        costs += [reached[begin]] if begin in reached else []
    return min(costs, default=None)


def read_prices(text, room, sizes, cost, paper):
    """With a cost: that no border costs less; with None: that there is none."""
    searched, legs = search(text), lengths(sides_of(room), sizes)
    need(legs is not None and row(paper, len(searched.states)))
    for begin, told in zip(searched.states, paper):
        need(row(told, len(legs) + 1))
        need(all(row(prices, len(searched.states)) for prices in told))
        need(all(price is None or integer(price) for prices in told for price in prices))
        rows = [dict(zip(searched.states, prices)) for prices in told]
        need(rows[0][begin] is not None and rows[0][begin] <= 0)
        for leg, ahead, behind in zip(legs, rows, rows[1:]):
            for state, price in ahead.items():
                if price is not None:
                    for end, more in led(searched, leg, state).items():
                        need(behind[end] is not None and behind[end] <= price + more)
        need(rows[-1][begin] is None or cost is not None and rows[-1][begin] >= cost)
