"""Books: border books under names, with claims that hold after each change."""

from cornerways.closing import least_cost
from cornerways.comparing import parting
from cornerways.errors import (Broken, InUse, InvalidClaim, InvalidIndex, InvalidName, InvalidSizes, InvalidText,
                               NotAsked, NothingToUndo, TooMany, UnknownName)
from cornerways.kinds import is_among, is_claimed_cost, is_integer, is_word, is_worded
from cornerways.rooms import Room, check_sizes
from cornerways.sides import check_borders
from cornerways.sizes import failing

CLAIMS = (("always", 3), ("at most", 5), ("alike", 4))


def names_in(claim):
    """The names A and B of a claim."""
    return claim[1:3] if claim[0] == "alike" else claim[1:2]


def room_in(claim):
    """The text of the room of a claim."""
    return claim[3] if claim[0] == "alike" else claim[2]


def is_claim(value):
    """Whether a value is a claim, if its names are not looked at."""
    if not is_worded(value, CLAIMS):
        return False
    try:
        room = Room(room_in(value))
        if value[0] == "at most":
            check_sizes(value[3], len(room.letters))
    except (InvalidText, InvalidSizes):
        return False
    return value[0] != "at most" or is_claimed_cost(value[4])


def answer(shelf, claim):
    """The pair of whether a claim holds, and of what shows that it does not."""
    borders, room = shelf[claim[1]], Room(room_in(claim))
    if claim[0] == "at most":
        cost = least_cost(borders, room, claim[3])
        return (cost is not None and cost <= claim[4], cost)
    sizes = failing(borders, room) if claim[0] == "always" else parting(borders, shelf[claim[2]], room)
    return (sizes is None, sizes)


def ask(shelf, index, claim):
    """Raises NotAsked or Broken unless the claim with this index can be asked and holds."""
    try:
        holds, against = answer(shelf, claim)
    except TooMany as error:
        raise NotAsked(index) from error
    if not holds:
        raise Broken(index, against)


def check_title(shelf, name):
    """Raises UnknownName unless a border book has this name."""
    if not is_among(name, shelf):
        raise UnknownName(name)


class Page:
    """What a book has at a time: border books under names and a row of claims. It stays as it is.

    Behind it stand the pages to which the changes so far can be taken back.
    """

    def __init__(self, shelf, row, behind):
        self.shelf = shelf
        self.row = row
        self.behind = behind
        self.many = 0 if behind is None else behind.many + 1


class Start:
    """The page with which the rows of a trial began, and the start of the rows around them."""

    def __init__(self, page, around):
        self.page = page
        self.around = around


class Trial:
    """Rows behind which a book is as it was if they end with an exception."""

    def __init__(self, book):
        self.book = book
        self.start = None

    def __enter__(self):
        self.start = Start(self.book.page, self.start)
        return self.book

    def __exit__(self, kind, value, trace):
        if kind is not None:
            self.book.page = self.start.page
        self.start = self.start.around


class Book:
    """Border books under names, and claims about them."""

    def __init__(self):
        self.page = Page({}, (), None)

    def change(self, shelf, row):
        """Makes a change: the book has these border books and claims from now on."""
        self.page = Page(shelf, row, self.page)

    def __setitem__(self, name, borders):
        if not is_word(name):
            raise InvalidName(name)
        check_borders(borders)
        shelf = {**self.page.shelf, name: borders}
        for index, claim in enumerate(self.page.row):
            # All others hold as they did: nothing that they name is put anew.
            if name in names_in(claim):
                ask(shelf, index, claim)
        self.change(shelf, self.page.row)

    def __getitem__(self, name):
        check_title(self.page.shelf, name)
        return self.page.shelf[name]

    def __iter__(self):
        raise TypeError("the border books of a book are read by their names")

    def remove(self, name):
        """Takes the border book with this name away."""
        check_title(self.page.shelf, name)
        for index, claim in enumerate(self.page.row):
            if name in names_in(claim):
                raise InUse(index)
        shelf = {title: borders for title, borders in self.page.shelf.items() if title != name}
        self.change(shelf, self.page.row)

    def claim(self, claim):
        """Makes a claim more, behind the others."""
        if not is_claim(claim):
            raise InvalidClaim(claim)
        for name in names_in(claim):
            check_title(self.page.shelf, name)
        # The others hold as they did: no border book is put anew.
        ask(self.page.shelf, len(self.page.row), claim)
        self.change(self.page.shelf, self.page.row + (claim,))

    def lift(self, index):
        """Takes the claim with this index away."""
        row = self.page.row
        if not is_integer(index, 0, len(row) - 1):
            raise InvalidIndex(index)
        self.change(self.page.shelf, row[:index] + row[index + 1:])

    def undo(self):
        """Takes back the last change that has not been taken back."""
        if self.page.behind is None:
            raise NothingToUndo()
        self.page = self.page.behind

    @property
    def titles(self):
        """The ascending tuple of the names."""
        return tuple(sorted(self.page.shelf))

    @property
    def claims(self):
        """The tuple of the claims."""
        return self.page.row

    @property
    def changes(self):
        """How many changes can be taken back."""
        return self.page.many

    def __contains__(self, value):
        return is_among(value, self.page.shelf)

    def __len__(self):
        return len(self.page.shelf)

    def __bool__(self):
        return True

    def __eq__(self, other):
        # No two books have a page in common, not even an empty one.
        return isinstance(other, Book) and self.page == other.page

    def trial(self):
        """For a `with` statement: if its rows end with an exception, the book is then as it was when they began."""
        return Trial(self)

    def tried(self, action):
        """Calls the function with the book within a trial, and returns what it returns."""
        with self.trial() as book:
            told = action(book)
        return told
