"""A book written apart from the package and kept simple: each change keeps a copy of all there was.

Whether a claim holds is told by the search of borders, for all sizes up to a number beyond the table.
"""

import copy
import functools
import itertools

from reading import is_room_text
from search import Survey, letters_of, lengths, search, sides_of, table_size

LENGTHS = {"always": 3, "at most": 5, "alike": 4}


class Refused(Exception):
    """A deed that a book refuses: the name of the error, and what it tells."""

    def __init__(self, name, **told):
        self.name, self.told = name, told


def is_name(value):
    return type(value) is str and 1 <= len(value) <= 8 and all("a" <= letter <= "z" for letter in value)


def names_of(claim):
    return claim[1:3] if claim[0] == "alike" else claim[1:2]


def is_claim(claim):
    if type(claim) is not tuple or not claim or type(claim[0]) is not str or LENGTHS.get(claim[0]) != len(claim):
        return False
    room = claim[3] if claim[0] == "alike" else claim[2]
    if type(room) is not str or not is_room_text(room):
        return False
    if claim[0] != "at most":
        return True
    sizes, cost = claim[3:]
    return (type(sizes) is tuple and len(sizes) == len(letters_of(room))
            and all(type(size) is int and 0 <= size <= 10 ** 30 for size in sizes)
            and type(cost) is int and 0 <= cost <= 1000)


@functools.lru_cache(maxsize=None)
def survey(text, room, top):
    return Survey(text, room, top)


def reach(room, *texts):
    """A number beyond the tables of these border books."""
    since = max(search(text).calendar(60) for text in texts)
    return since + max(0, -min(side[1] for side in sides_of(room))) + period(*texts)


def period(*texts):
    return next(many for many in itertools.count(1) if all(many % search(text).many == 0 for text in texts))


@functools.lru_cache(maxsize=None)
def answer(word, room, texts, told):
    """Whether a claim holds, and what `failing`, `least_cost` or `parting` tell; None if it cannot be asked."""
    if word == "at most":
        cost = search(texts[0]).least(sides_of(room), told[0])
        return cost is not None and cost <= told[1], cost
    if word == "always":
        many = search(texts[0]).many + max(0, -min(side[1] for side in sides_of(room)))
        sizes = survey(texts[0], room, many).failing()
        return sizes is None, sizes
    since = max(search(text).calendar(60) for text in texts)
    if table_size(texts[0], room, period(*texts), since) > 900:
        return None
    top = reach(room, *texts)
    sizes = survey(texts[0], room, top).parting(survey(texts[1], room, top))
    return sizes is None, sizes


class Ledger:
    """A book: the texts of the border books under their names, the claims, and copies of what was ahead."""

    def __init__(self):
        self.texts, self.claims, self.past = {}, [], []

    def keep(self):
        self.past.append((dict(self.texts), list(self.claims)))

    def ask_all(self, texts, claims):
        for index, claim in enumerate(claims):
            room = claim[3] if claim[0] == "alike" else claim[2]
            told = answer(claim[0], room, tuple(texts[name] for name in names_of(claim)), claim[3:])
            if told is None:
                raise Refused("NotAsked", index=index)
            if not told[0]:
                raise Refused("Broken", index=index, shown=told[1])

    def put(self, name, text):
        """With None in the place of a text: something that is no border book."""
        if not is_name(name):
            raise Refused("InvalidName", given=name)
        if text is None:
            raise Refused("NotBorders", given=None)
        self.ask_all({**self.texts, name: text}, self.claims)
        self.keep()
        self.texts[name] = text

    def know(self, name):
        if not (type(name) is str and name in self.texts):
            raise Refused("UnknownName", given=name)

    def read(self, name):
        self.know(name)
        return self.texts[name]

    def remove(self, name):
        self.know(name)
        uses = [index for index, claim in enumerate(self.claims) if name in names_of(claim)]
        if uses:
            raise Refused("InUse", index=uses[0])
        self.keep()
        del self.texts[name]

    def claim(self, claim):
        if not is_claim(claim):
            raise Refused("InvalidClaim", given=claim)
        for name in names_of(claim):
            self.know(name)
        self.ask_all(self.texts, self.claims + [claim])
        self.keep()
        self.claims.append(claim)

    def lift(self, index):
        if type(index) is not int or not 0 <= index < len(self.claims):
            raise Refused("InvalidIndex", given=index)
        self.keep()
        del self.claims[index]

    def undo(self):
        if not self.past:
            raise Refused("NothingToUndo")
        self.texts, self.claims = self.past.pop()

    def all(self):
        return copy.deepcopy((self.texts, self.claims, self.past))

    def put_back(self, told):
        self.texts, self.claims, self.past = copy.deepcopy(told)
