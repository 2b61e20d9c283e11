"""Border books and rooms for the tests: chosen ones, and ones put together by a seeded random source."""

import random

DOCUMENT = ("signs abc\npiece gap 0> 1> long 2 cost 5\ncorner turn out 0> 0> cost 0\ncorner turn out 1> 2> cost 1\n"
            "corner nook in 0> 2< cost 3")
PLAIN = "signs abc"
SQUARE = "signs abc\ncorner turn out 0> 0> cost 0"
FREE = "signs ab\ncorner turn out 0> 0> cost 1\ncorner turn out 1> 1> cost 1\ncorner flip out 0> 0< cost 4"

# Its calendar is one of the greatest: dear and cheap pieces lead on late.
LATE = """signs abcde
piece pa 4< 1> long 5 cost 7
piece pb 1< 1< long 4 cost 9
piece pc 0> 2< long 4 cost 1
piece pd 3> 3< long 6 cost 8
piece pe 3> 3> long 6 cost 8
piece pf 2> 0< long 6 cost 4
piece pg 3< 2< long 3 cost 8
piece ph 3< 1> long 6 cost 0
corner a out 2< 0< cost 4
corner b out 1> 0> cost 7
corner c out 2< 1< cost 7
corner d out 4< 1> cost 9
corner a out 1> 2< cost 8
corner b out 2< 2> cost 1
corner c out 0< 3< cost 2
corner d out 1> 3> cost 2
corner a out 1< 4< cost 4
corner b out 1> 4> cost 7
corner c out 1< 0< cost 9
corner d out 1> 0> cost 4"""

SIGNS = "abcde"
OBLONG = "x out, y out, x out, y out"


def seeded(seed):
    """A random source that tells the same each time."""
    return random.Random(seed)


def states(many):
    return [f"{phase}{way}" for phase in range(many) for way in "<>"]


def fillers(many, cost=1):
    """A border book with a filler of the length 1 at each phase that runs on."""
    return "\n".join([f"signs {SIGNS[:many]}"] + [
        f"piece {'abcde'[phase]} {phase}> {phase}> long 1 cost {cost}" for phase in range(many)])


def keeping(many, cost=0):
    """Lines of outer corners that keep all phases that run on."""
    return "".join(f"\ncorner keep out {phase}> {phase}> cost {cost}" for phase in range(many))


def turning(many, cost=0):
    """Lines of outer corners that turn the motif about at each phase."""
    return "".join(f"\ncorner flip out {phase}{a} {phase}{b} cost {cost}" for phase in range(many)
                   for a, b in ("<>", "><"))


def some_book(source, most_signs=5, most_pieces=4, most_corners=6, turns=("out", "in")):
    """A border book of any of these kinds."""
    many = source.randint(1, most_signs)
    rows = [f"signs {''.join(source.choice('abc') for _ in range(many))}"]
    for name in "stuvwxyz"[:source.randint(0, most_pieces)]:
        rows.append(f"piece {name} {source.choice(states(many))} {source.choice(states(many))} "
                    f"long {source.randint(1, 6)} cost {source.choice((0, 1, 2, 5, 9))}")
    for _ in range(source.randint(0, most_corners)):
        row = (f"corner {source.choice(('a', 'b', 'c', 'ab'))} {source.choice(turns)} {source.choice(states(many))} "
               f"{source.choice(states(many))} cost {source.choice((0, 1, 2, 7))}")
        if row not in rows:
            rows.append(row)
    return "\n".join(rows)


def kind_book(source, most_signs=3, most_pieces=3):
    """A border book whose rooms close rather often: its corners lead from many states to few."""
    many = source.randint(1, most_signs)
    rows = [f"signs {'abcab'[:many]}"]
    for name in "stuv"[:source.randint(0, most_pieces)]:
        rows.append(f"piece {name} {source.randrange(many)}> {source.randrange(many)}{source.choice('>><')} "
                    f"long {source.randint(1, 3)} cost {source.choice((0, 1, 3, 4, 9))}")
    for _ in range(source.randint(2, 8)):
        row = (f"corner {source.choice('abc')} {source.choice(('out', 'out', 'in'))} "
               f"{source.randrange(many)}{source.choice('>><')} {source.choice('00' + '012'[:many])}> "
               f"cost {source.choice((0, 1, 3, 5))}")
        if row not in rows:
            rows.append(row)
    return "\n".join(rows)


def some_room(source, letters="xyz", most_sides=4, most_plus=9, turns=("out", "in")):
    """A room of any of these kinds."""
    rows = []
    for _ in range(source.randint(1, most_sides)):
        plus = source.randint(-most_plus, most_plus)
        rows.append(f"{source.choice(letters)}{f'{plus:+d}' if plus else ''} {source.choice(turns)}")
    return ", ".join(rows)


def some_pairs(seed, many, kind=some_book, letters="xyz", most_sides=4, most_plus=3, turns=("out", "in"), **limits):
    """Pairs of the texts of a border book and a room."""
    source = seeded(seed)
    return [(kind(source, **limits), some_room(source, letters, most_sides, most_plus, turns)) for _ in range(many)]


def kind_pairs(seed, many, **limits):
    """Such pairs of which rather many close."""
    return some_pairs(seed, many, kind=kind_book, turns=("out",) * 5 + ("in",), **limits)


def some_books(seed, many, **limits):
    """The texts of border books."""
    source = seeded(seed)
    return [some_book(source, **limits) for _ in range(many)]


def mapped(text, change):
    """A border book with each state changed."""
    rows = []
    for row in text.split("\n"):
        words = row.split(" ")
        at = {"piece": 2, "corner": 3}.get(words[0])
        if at is not None:
            words[at:at + 2] = [change(state) for state in words[at:at + 2]]
        rows.append(" ".join(words))
    return "\n".join(rows)


def mirrored(text):
    """The same border book with all states turned about, its phases counted the other way round."""
    many = len(text.split("\n")[0]) - 6
    return mapped(text, lambda state: mirrored_state(state, many))


def mirrored_state(state, many):
    return f"{-int(state[0]) % many}{'<' if state[1] == '>' else '>'}"


def moved(text, by):
    """The same border book with all phases moved on."""
    many = len(text.split("\n")[0]) - 6
    return mapped(text, lambda state: moved_state(state, by, many))


def moved_state(state, by, many):
    return f"{(int(state[0]) + by) % many}{state[1]}"


def about(state):
    """A state turned about."""
    return state[0] + ("<" if state[1] == ">" else ">")


def backwards(text):
    """The border book whose borders run round the other way: from and to changed, all states turned about."""
    rows = []
    for row in text.split("\n"):
        words = row.split(" ")
        at = {"piece": 2, "corner": 3}.get(words[0])
        if at is not None:
            words[at:at + 2] = [about(words[at + 1]), about(words[at])]
        rows.append(" ".join(words))
    return "\n".join(rows)


def backwards_room(room):
    """The room run round the other way: each side with the turn of the corner ahead of it."""
    parts = [part.split(" ") for part in room.split(", ")]
    return ", ".join(f"{parts[at][0]} {parts[at - 1][1]}" for at in reversed(range(len(parts))))


def begun_at(room, by):
    """The room begun at another side."""
    parts = room.split(", ")
    return ", ".join(parts[by:] + parts[:by])
