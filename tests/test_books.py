"""Books held against a ledger that is kept simple, and each deed by itself."""

import unittest

import samples
from cornerways import errors
from cornerways.books import Book
from cornerways.closing import least_cost
from cornerways.comparing import parting
from cornerways.errors import (BadName, BadValue, Broken, InUse, InvalidClaim, InvalidIndex, InvalidName, NoAnswer,
                               NotAsked, NotBorders, NothingToUndo, TooMany, UnknownName)
from cornerways.motifs import Borders
from cornerways.rooms import Room
from cornerways.sizes import always, failing
from ledger import Ledger, Refused
from samples import FREE, OBLONG, PLAIN, SQUARE
from values import Claims, nested, others, others_than_integers, others_than_strings

TOP = 10 ** 30
ONE = "signs a\ncorner c out 0> 0> cost 1"
DEAR = "signs a\ncorner c out 0> 0> cost 2"
FILLED = "signs ab\npiece p 0> 0> long 1 cost 3\npiece q 1> 1> long 1 cost 3" + samples.keeping(2, 1)
GREAT_ROOM = "x-9 out, y-9 out, z-9 out"
FIVE, FOUR = "signs abcde", "signs abcd"


def state(book):
    """All that a book tells."""
    return ([(name, book[name].text) for name in book.titles], book.claims, book.changes, len(book),
            [name in book for name in book.titles])


class Case(unittest.TestCase):

    BASES = {BadValue: ValueError, BadName: LookupError, NoAnswer: ArithmeticError}

    def refused(self, book, error, told, deed, *arguments):
        """A deed that raises this error with these attributes, and changes nothing."""
        before = state(book)
        with self.assertRaises(error) as caught:
            deed(*arguments)
        self.assertIs(type(caught.exception), error)
        self.assertEqual(vars(caught.exception), told)
        if "given" in told:
            self.assertIs(caught.exception.given, told["given"])
        base = error.__mro__[1]
        self.assertIsInstance(caught.exception, self.BASES[base])
        self.assertEqual(state(book), before)
        return caught.exception


def put(book, name, borders):
    book[name] = borders


def read(book, name):
    return book[name]


class Titles(Case):

    def test_an_empty_book(self):
        book = Book()
        self.assertEqual([book.titles, book.claims, book.changes, len(book)], [(), (), 0, 0])
        self.assertEqual([type(book.titles), type(book.claims), type(book.changes)], [tuple, tuple, int])
        self.assertIs(bool(book), True)
        self.assertIs("a" in book, False)
        self.refused(book, NothingToUndo, {}, book.undo)
        self.refused(book, UnknownName, {"given": "a"}, read, book, "a")
        self.refused(book, UnknownName, {"given": "a"}, book.remove, "a")
        self.refused(book, InvalidIndex, {"given": 0}, book.lift, 0)

    def test_putting_and_reading(self):
        book, square, free = Book(), Borders(SQUARE), Borders(FREE)
        book["b"] = square
        book["abcdefgh"] = free
        book["a"] = square
        self.assertEqual([book.titles, len(book), book.changes], [("a", "abcdefgh", "b"), 3, 3])
        self.assertIs(book["a"], square)
        self.assertIs(book["abcdefgh"], free)
        book["a"] = free
        self.assertIs(book["a"], free)
        self.assertEqual([book.titles, len(book), book.changes], [("a", "abcdefgh", "b"), 3, 4])
        self.assertEqual(["b" in book, "c" in book, "" in book], [True, False, False])

    def test_methods_return_none(self):
        book = Book()
        self.assertIsNone(book.__setitem__("a", Borders(FREE)))
        self.assertIsNone(book.claim(("always", "a", OBLONG)))
        self.assertIsNone(book.lift(0))
        self.assertIsNone(book.remove("a"))
        self.assertIsNone(book.undo())

    def test_by_name(self):
        book = Book()
        book["a"] = Borders(FREE)
        book.claim(claim=("always", "a", OBLONG))
        book.lift(index=0)
        book.remove(name="a")
        self.assertEqual(book.tried(action=lambda told: told.changes), 4)

    def test_removing(self):
        book = Book()
        for name in ("a", "b", "c"):
            book[name] = Borders(SQUARE)
        book.remove("b")
        self.assertEqual([book.titles, book.changes], [("a", "c"), 4])
        self.refused(book, UnknownName, {"given": "b"}, book.remove, "b")
        self.refused(book, UnknownName, {"given": "b"}, read, book, "b")
        book["b"] = Borders(FREE)
        self.assertEqual(book["b"].text, FREE)

    def test_invalid_names(self):
        book = Book()
        for name in others_than_strings() + ["", "A", "a ", " a", "a b", "abcdefghi", "a1", "a\n", "0>", "x out",
                                             Book(), Borders(FREE), (("a",),), ["a"]]:
            self.refused(book, InvalidName, {"given": name}, put, book, name, Borders(FREE))
            self.refused(book, InvalidName, {"given": name}, put, book, name, None)

    def test_no_border_books(self):
        book = Book()
        for value in others() + ["", FREE, (FREE,), 0, 1, (), nested(10), Room("x out"), Book(), Borders,
                                 [Borders(FREE)], (Borders(FREE),)]:
            self.refused(book, NotBorders, {"given": value}, put, book, "a", value)

    def test_unknown_names(self):
        book = Book()
        book["a"] = Borders(FREE)
        for name in others_than_strings() + ["", "b", "A", "aa", "a ", ("a",), ["a"], {"a": 1}, Book(), nested(10)]:
            self.refused(book, UnknownName, {"given": name}, read, book, name)
            self.refused(book, UnknownName, {"given": name}, book.remove, name)
            self.assertIs(name in book, False)
        self.assertIs("a" in book, True)
        self.assertIs(type("a" in book), bool)


class Equality(unittest.TestCase):

    def test_two_books_are_unequal(self):
        first, second = Book(), Book()
        self.assertEqual([first == second, first != second], [False, True])
        for book in (first, second):
            book["a"] = Borders(FREE)
        self.assertEqual([first == second, first != second], [False, True])
        first.undo()
        second.undo()
        self.assertEqual([first == second, second == first, first != second], [False, False, True])

    def test_a_book_is_the_same_as_itself(self):
        book = Book()
        self.assertEqual([book == book, book != book], [True, False])
        with book.trial() as same:
            same["a"] = Borders(FREE)
            self.assertIs(same, book)
            self.assertEqual([book == same, book != same], [True, False])

    def test_values_of_other_classes(self):
        for made in (Book(), Borders(FREE), Room("x out")):
            rows = others() + [0, 1, "", "x out", FREE, (), {}, nested(10), Book(), Borders(SQUARE), Room("y out"),
                               Borders, Room, Book, ("x out",), [FREE]]
            for value in rows:
                self.assertIs(made == value, False)
                self.assertIs(made != value, True)
                if not isinstance(value, Claims):
                    self.assertIs(value == made, False)
                    self.assertIs(value != made, True)

    def test_books_are_true(self):
        book = Book()
        self.assertEqual([bool(book), not book], [True, False])
        book["a"] = Borders(FREE)
        self.assertIs(bool(book), True)


class Claiming(Case):

    def book(self, **texts):
        book = Book()
        for name, text in texts.items():
            book[name] = Borders(text)
        return book

    def test_claims_that_hold(self):
        book = self.book(a=FREE, b=SQUARE, c=SQUARE)
        rows = [("always", "a", OBLONG), ("at most", "a", OBLONG, (1, 2), 4), ("alike", "b", "c", OBLONG),
                ("at most", "b", "x out, x+9 out", (0,), 0), ("alike", "a", "a", "x out"), ("always", "a", OBLONG)]
        for index, claim in enumerate(rows):
            book.claim(claim)
            self.assertEqual(book.claims, tuple(rows[:index + 1]))
            self.assertIs(book.claims[index], claim)
            self.assertEqual(book.changes, 4 + index)

    def test_claims_that_do_not_hold(self):
        book = self.book(a=FREE, b=SQUARE, c=ONE, d=DEAR)
        book.claim(("always", "a", OBLONG))
        for claim, shown in ((("always", "b", OBLONG), (0, 1)), (("always", "a", "x out"), (1,)),
                             (("always", "b", "x-4 in, z out"), (4, 0)),
                             (("at most", "a", OBLONG, (1, 2), 3), 4), (("at most", "b", OBLONG, (3, 5), 1000), None),
                             (("at most", "b", "x-1 out", (0,), 0), None), (("at most", "d", "x out", (TOP,), 0), 2),
                             (("alike", "a", "b", OBLONG), (0, 0)), (("alike", "c", "d", "x-3 out"), (3,)),
                             (("alike", "b", "c", "x out, x out"), (0,))):
            self.refused(book, Broken, {"index": 1, "shown": shown}, book.claim, claim)
        self.assertEqual(book.changes, 5)

    def test_what_is_shown(self):
        book = self.book(a=SQUARE, b=FREE)
        for room in (OBLONG, "x-3 out, y+1 out", "x out, x in"):
            for claim, shown in ((("always", "a", room), failing(book["a"], Room(room))),
                                 (("alike", "b", "a", room), parting(book["b"], book["a"], Room(room)))):
                if shown is not None:
                    error = self.refused(book, Broken, {"index": 0, "shown": shown}, book.claim, claim)
                    self.assertIsInstance(error, ArithmeticError)

    def test_the_costs_of_claims(self):
        book = self.book(a=FREE)
        least = least_cost(book["a"], Room(OBLONG), (1, 2))
        for cost in range(9):
            claim = ("at most", "a", OBLONG, (1, 2), cost)
            if cost < least:
                self.refused(book, Broken, {"index": len(book.claims), "shown": least}, book.claim, claim)
            else:
                book.claim(claim)
        self.assertEqual(len(book.claims), 9 - least)
        book.claim(("at most", "a", OBLONG, (TOP, TOP - 1), 1000))

    def test_claims_that_cannot_be_asked(self):
        book = self.book(a=FIVE, b=FOUR, c=ONE)
        book.claim(("always", "c", "x out"))
        for claim in (("alike", "a", "b", "x out, y-1 out, z-2 out"), ("alike", "c", "c", GREAT_ROOM),
                      ("alike", "b", "a", GREAT_ROOM)):
            error = self.refused(book, NotAsked, {"index": 1}, book.claim, claim)
            self.assertIs(type(error.__cause__), TooMany)
            self.assertEqual(error.__cause__.limit, 900)
        # Nothing else has a table here.
        book.claim(("always", "c", GREAT_ROOM))
        book.claim(("at most", "c", GREAT_ROOM, (TOP, TOP, TOP), 3))

    def test_tables_of_900_sizes(self):
        book = self.book(a="signs a", b="signs a")
        book.claim(("alike", "a", "b", "x-9 out, y-9 out, z-8 out"))
        self.refused(book, NotAsked, {"index": 1}, book.claim, ("alike", "a", "b", GREAT_ROOM))

    def invalid(self, book, claim):
        self.refused(book, InvalidClaim, {"given": claim}, book.claim, claim)

    def test_invalid_claims(self):
        book = self.book(a=FREE, b=FREE)
        right = [("always", "a", OBLONG), ("at most", "a", OBLONG, (1, 2), 4), ("alike", "a", "b", OBLONG)]
        for value in others() + [0, 1, "", "always", "always a x out", (), ("always",), (right[0],), nested(10), [],
                                 Book(), Borders(FREE), Room("x out")]:
            self.invalid(book, value)
        for claim in right:
            for other in (claim[:-1], claim + (0,), claim + (None,), claim[:1], list(claim), claim[1:], claim[::-1]):
                self.invalid(book, other)
            for word in others_than_strings() + ["", "Always", "always ", "atmost", "at  most", "alik", "closes"]:
                self.invalid(book, (word,) + claim[1:])
        for claim, other in ((right[0], "at most"), (right[0], "alike"), (right[1], "always"), (right[1], "alike"),
                             (right[2], "always"), (right[2], "at most")):
            self.invalid(book, (other,) + claim[1:])

    def test_invalid_rooms(self):
        book = self.book(a=FREE, b=FREE)
        for room in others_than_strings() + ["", "x", "out", "x out,", "x+0 out", "x out, ", "w out", OBLONG + "\n",
                                             "a", ", ".join(["x out"] * 13), Room(OBLONG), (OBLONG,), [OBLONG]]:
            self.invalid(book, ("always", "a", room))
            self.invalid(book, ("alike", "a", "b", room))
            self.invalid(book, ("at most", "a", room, (1, 2), 4))
            self.invalid(book, ("always", "unknown", room))

    def test_invalid_sizes_and_costs(self):
        book = self.book(a=FREE)
        for sizes in others() + [0, "", "xy", (), (1,), (1, 2, 3), [1, 2], (1, -1), (-1, 1), (1, TOP + 1), (True, 1),
                                 (1, False), (1, None), (1, "2"), ((1, 2),), (1, Claims()), {1: 1, 2: 2}, nested(9)]:
            self.invalid(book, ("at most", "a", OBLONG, sizes, 4))
            self.invalid(book, ("at most", "unknown", OBLONG, sizes, 4))
        for cost in others_than_integers() + [-1, 1001, 10 ** 39, True, False, (4,), "4"]:
            self.invalid(book, ("at most", "a", OBLONG, (1, 2), cost))
            self.invalid(book, ("at most", None, OBLONG, (1, 2), cost))
        for cost in (0, 1000):
            self.invalid(book, ("at most", "a", OBLONG, (1, None), cost))

    def test_names_of_claims_that_the_book_has_not(self):
        book = self.book(a=FREE, b=FREE)
        for name in others_than_strings() + ["", "c", "A", "a b", "abcdefghi", ("a",), Book(), nested(9), OBLONG]:
            for claim in (("always", name, OBLONG), ("at most", name, OBLONG, (1, 2), 4), ("alike", name, "b", OBLONG),
                          ("alike", "a", name, OBLONG), ("alike", name, "unknown", OBLONG),
                          ("alike", name, "b", GREAT_ROOM), ("always", name, "x out")):
                self.refused(book, UnknownName, {"given": name}, book.claim, claim)

    def test_a_comes_ahead_of_b(self):
        book = self.book(a=FREE)
        for one, other, told in (("p", "q", "p"), ("a", "q", "q"), ("p", "a", "p"), (None, (), None)):
            self.refused(book, UnknownName, {"given": told}, book.claim, ("alike", one, other, OBLONG))


class Lifting(Case):

    def test_each_index(self):
        rows = [("at most", "a", "x out, x out", (0,), cost) for cost in range(2, 7)]
        for index in range(5):
            book = Book()
            book["a"] = Borders(FREE)
            for claim in rows:
                book.claim(claim)
            book.lift(index)
            self.assertEqual(book.claims, tuple(rows[:index] + rows[index + 1:]))
            self.assertEqual(book.changes, 7)
            self.refused(book, InvalidIndex, {"given": 4}, book.lift, 4)

    def test_no_indexes(self):
        book = Book()
        book["a"] = Borders(FREE)
        for index in others_than_integers() + [-1, 0, 1, True, False, 10 ** 39, (0,), [0], "0", Book()]:
            self.refused(book, InvalidIndex, {"given": index}, book.lift, index)
        for many in range(1, 4):
            book.claim(("always", "a", OBLONG))
            for index in others_than_integers() + [-many, -1, many, many + 1, True, False, 10 ** 39, (0,), "0", None]:
                self.refused(book, InvalidIndex, {"given": index}, book.lift, index)

    def test_a_name_is_free_behind_it(self):
        book = Book()
        book["a"] = Borders(FREE)
        book.claim(("always", "a", OBLONG))
        self.refused(book, InUse, {"index": 0}, book.remove, "a")
        book.lift(0)
        book.remove("a")
        self.assertEqual([book.titles, book.claims, book.changes], [(), (), 4])


class InUseAndBroken(Case):

    def book(self):
        book = Book()
        for name, text in (("a", FREE), ("b", SQUARE), ("c", SQUARE), ("d", ONE), ("e", FREE)):
            book[name] = Borders(text)
        for claim in (("always", "a", OBLONG), ("alike", "b", "c", OBLONG), ("at most", "d", "x out", (5,), 1),
                      ("alike", "c", "b", "x out"), ("always", "a", "x out, x out"), ("alike", "c", "c", "x out")):
            book.claim(claim)
        return book

    def test_the_first_claim_with_the_name(self):
        book = self.book()
        for name, index in (("a", 0), ("b", 1), ("c", 1), ("d", 2)):
            self.refused(book, InUse, {"index": index}, book.remove, name)
        book.remove("e")
        book.lift(1)
        for name, index in (("a", 0), ("b", 2), ("c", 2), ("d", 1)):
            self.refused(book, InUse, {"index": index}, book.remove, name)

    def test_what_a_border_book_breaks(self):
        book = self.book()
        for name, text, index, shown in (("a", SQUARE, 0, (0, 1)), ("a", PLAIN, 0, (0, 0)), ("b", FREE, 1, (0, 0)),
                                         ("c", PLAIN, 1, (0, 0)), ("d", DEAR, 2, 2), ("d", PLAIN, 2, None)):
            self.refused(book, Broken, {"index": index, "shown": shown}, put, book, name, Borders(text))
        for name, text in (("a", FILLED), ("b", SQUARE + "\ncorner turn in 0> 0> cost 0"), ("d", ONE), ("e", PLAIN)):
            book[name] = Borders(text)
        self.assertEqual(book.changes, 15)

    def test_what_cannot_be_asked(self):
        book = Book()
        book["a"] = Borders(FIVE)
        book["b"] = Borders("signs b")
        room = "x-5 out, y-4 out, z-5 out"
        book.claim(("alike", "b", "b", "x out"))
        book.claim(("alike", "a", "b", room))
        error = self.refused(book, NotAsked, {"index": 1}, put, book, "b", Borders(FOUR))
        self.assertIs(type(error.__cause__), TooMany)
        book["b"] = Borders("signs edcba")
        # A border book that breaks the first claim, and with which the second one cannot be asked.
        book.lift(0)
        book.lift(0)
        book.claim(("alike", "a", "b", "x out"))
        book.claim(("alike", "a", "b", room))
        self.refused(book, Broken, {"index": 0, "shown": (0,)}, put, book, "b",
                     Borders(FOUR + "\ncorner c out 0> 0> cost 0"))
        self.refused(book, NotAsked, {"index": 1}, put, book, "b", Borders(FOUR))

    def test_invalid_values_come_first(self):
        book = self.book()
        self.refused(book, InvalidName, {"given": "A"}, put, book, "A", Borders(PLAIN))
        self.refused(book, NotBorders, {"given": PLAIN}, put, book, "a", PLAIN)


class Undoing(Case):

    def test_each_change(self):
        book = Book()
        told = [state(book)]
        for deed in (lambda: put(book, "a", Borders(FREE)), lambda: put(book, "b", Borders(SQUARE)),
                     lambda: book.claim(("always", "a", OBLONG)), lambda: put(book, "a", Borders(FILLED)),
                     lambda: book.remove("b"), lambda: book.claim(("always", "a", "x out")), lambda: book.lift(0),
                     lambda: put(book, "a", Borders(FILLED)), lambda: book.lift(0), lambda: book.remove("a")):
            deed()
            told.append(state(book))
        self.assertEqual([row[2] for row in told], list(range(11)))
        for row in told[-2::-1]:
            book.undo()
            self.assertEqual(state(book), row)
        self.refused(book, NothingToUndo, {}, book.undo)

    def test_changes_that_make_nothing_different_count(self):
        book, free = Book(), Borders(FREE)
        for many in range(1, 5):
            book["a"] = free
            self.assertEqual(book.changes, many)
        for many in range(4, 0, -1):
            self.assertIn("a", book)
            book.undo()
        self.assertNotIn("a", book)

    def test_refused_deeds_are_no_changes(self):
        book = Book()
        book["a"] = Borders(FREE)
        self.refused(book, Broken, {"index": 0, "shown": (1,)}, book.claim, ("always", "a", "x out"))
        self.refused(book, UnknownName, {"given": "b"}, book.remove, "b")
        book.undo()
        self.assertEqual([book.titles, book.changes], [(), 0])

    def test_undone_changes_are_gone(self):
        book = Book()
        book["a"] = Borders(FREE)
        book["b"] = Borders(SQUARE)
        book.undo()
        book["c"] = Borders(ONE)
        self.assertEqual([book.titles, book.changes], [("a", "c"), 2])
        book.undo()
        book.undo()
        self.assertEqual([book.titles, book.changes], [(), 0])

    def test_many_changes(self):
        book, borders = Book(), Borders(ONE)
        for many in range(30000):
            book["a"] = borders
        self.assertEqual(book.changes, 30000)
        for many in range(29999):
            book.undo()
        self.assertEqual([book.titles, book.changes], [("a",), 1])

    def test_rows_that_were_read_stay_as_they_are(self):
        book = Book()
        book["a"] = Borders(FREE)
        titles, claims = book.titles, book.claims
        book["b"] = Borders(FREE)
        book.claim(("always", "b", OBLONG))
        self.assertEqual([titles, claims], [("a",), ()])
        self.assertEqual([book.titles, book.claims], [("a", "b"), (("always", "b", OBLONG),)])

    def test_two_books_have_nothing_in_common(self):
        first, second = Book(), Book()
        first["a"] = Borders(FREE)
        self.assertEqual([second.titles, second.changes], [(), 0])
        second["b"] = Borders(ONE)
        first.undo()
        self.assertEqual([first.titles, second.titles], [(), ("b",)])


class Interrupted(Exception):
    pass


TEXTS = [FREE, SQUARE, PLAIN, ONE, DEAR, FILLED, "signs a\ncorner c out 0> 0> cost 1\ncorner d in 0> 0> cost 1",
         SQUARE + "\ncorner turn in 0> 0> cost 4", FREE + "\ncorner turn out 1< 0> cost 9"]
ROOMS = ["x out", "x out, x out", OBLONG, "x-1 out, y in", "x-2 out, y-9 out", "x-9 out, y-9 out, z-9 out"]
NAMES = ["a", "b", "c", "d"]


class Deeds(Case):
    """Rows of deeds done with a book and with a ledger."""

    def claim_of(self, source):
        name, other = source.choice(NAMES), source.choice(NAMES)
        room = source.choice(ROOMS[:5] if source.random() < 0.7 else ROOMS)
        sizes = tuple(source.choice((0, 1, 2, 3, 5, 9)) for letter in sorted(set(room) & set("xyz")))
        return source.choice([("always", name, room), ("at most", name, room, sizes, source.choice((0, 1, 4, 9, 1000))),
                              ("alike", name, other, room), ("at most", name, room, sizes, 1001),
                              ("alike", name, name, room)])

    def deed(self, source):
        """A deed, as its name and what it takes."""
        kind = source.choice(("put",) * 5 + ("claim",) * 6 + ("remove", "remove", "lift", "lift", "undo", "undo"))
        if kind == "put":
            name = source.choice(NAMES + ["A"]) if source.random() < 0.2 else source.choice(NAMES)
            return kind, name, source.choice(TEXTS + [None]) if source.random() < 0.2 else source.choice(TEXTS)
        if kind == "claim":
            return kind, self.claim_of(source)
        if kind == "remove":
            return kind, source.choice(NAMES + [("a",)])
        if kind == "lift":
            return kind, source.choice((0, 0, 1, 2, -1, True, None))
        return (kind,)

    def do(self, book, ledger, deed):
        """Does a deed with both, and tells the name of the error, or None."""
        kind, *told = deed
        try:
            getattr(ledger, kind)(*told)
            refusal = None
        except Refused as error:
            refusal = error
        if refusal is None:
            self.let(book, deed)
        else:
            self.refused(book, getattr(errors, refusal.name), refusal.told, self.let, book, deed)
        self.same(book, ledger)
        return None if refusal is None else refusal.name

    def let(self, book, deed):
        kind, *told = deed
        if kind == "put":
            book[told[0]] = None if told[1] is None else Borders(told[1])
        else:
            getattr(book, kind)(*told)

    def same(self, book, ledger):
        self.assertEqual(state(book), (sorted(ledger.texts.items()), tuple(ledger.claims), len(ledger.past),
                                       len(ledger.texts), [True] * len(ledger.texts)))

    def test_rows_of_deeds(self):
        source = samples.seeded(601)
        names = []
        for turn in range(40):
            book, ledger = Book(), Ledger()
            for step in range(50):
                names.append(self.do(book, ledger, self.deed(source)))
            self.holds(book)
        self.assertGreater(names.count(None), 500)
        for name in ("InvalidName", "NotBorders", "UnknownName", "InUse", "InvalidClaim", "InvalidIndex",
                     "NothingToUndo", "NotAsked", "Broken"):
            self.assertGreater(names.count(name), 3, name)

    def holds(self, book):
        """All claims of the book hold."""
        for claim in book.claims:
            if claim[0] == "always":
                self.assertIs(always(book[claim[1]], Room(claim[2])), True)
            elif claim[0] == "alike":
                self.assertIsNone(parting(book[claim[1]], book[claim[2]], Room(claim[3])))
            else:
                self.assertLessEqual(least_cost(book[claim[1]], Room(claim[2]), claim[3]), claim[4])

    def test_everything_undone_and_done_anew(self):
        source = samples.seeded(603)
        for turn in range(15):
            book, ledger, kept = Book(), Ledger(), []
            for step in range(40):
                deed = self.deed(source)
                if self.do(book, ledger, deed) is None:
                    if deed[0] == "undo":
                        kept.pop()
                    else:
                        kept.append(deed)
            self.assertEqual(book.changes, len(kept))
            end = state(book)
            anew = Book()
            told = [state(anew)]
            for deed in kept:
                self.let(anew, deed)
                told.append(state(anew))
            self.assertEqual(told[-1], end)
            for row in told[-2::-1]:
                book.undo()
                self.assertEqual(state(book), row)
            for deed in kept:
                self.let(book, deed)
            self.assertEqual(state(book), end)

    def rows(self, source, book, ledger, depth, trials):
        """Some deeds, and trials within, some of which end with an exception."""
        for step in range(source.randint(1, 6)):
            if depth < 4 and source.random() < 0.4:
                trial = source.choice(trials + [None])
                self.within(source, book, ledger, depth, trials, trial)
            else:
                self.do(book, ledger, self.deed(source))

    def within(self, source, book, ledger, depth, trials, trial):
        began, before = ledger.all(), state(book)
        fails = source.random() < 0.5
        made = book.trial() if trial is None else trial
        try:
            with made as same:
                self.assertIs(same, book)
                self.rows(source, book, ledger, depth + 1, trials + [made])
                if fails:
                    raise Interrupted
        except Interrupted:
            self.assertIs(fails, True)
            ledger.put_back(began)
            self.assertEqual(state(book), before)
        else:
            self.assertIs(fails, False)
        self.same(book, ledger)

    def test_trials_within_trials(self):
        source = samples.seeded(605)
        for turn in range(40):
            book, ledger = Book(), Ledger()
            for step in range(6):
                self.rows(source, book, ledger, 0, [])
            # What undo takes back is the same, too.
            while ledger.past:
                self.do(book, ledger, ("undo",))


class Trials(Case):

    def book(self):
        book = Book()
        book["a"] = Borders(FREE)
        book.claim(("always", "a", OBLONG))
        return book

    def fail(self, book, trial=None):
        with book.trial() if trial is None else trial as same:
            same["b"] = Borders(SQUARE)
            same.lift(0)
            same.remove("a")
            raise Interrupted("told")

    def test_without_an_exception(self):
        book = self.book()
        with book.trial() as same:
            self.assertIs(same, book)
            book["b"] = Borders(SQUARE)
            self.assertEqual(book.titles, ("a", "b"))
        self.assertEqual([book.titles, book.changes], [("a", "b"), 3])
        book.undo()
        self.assertEqual([book.titles, book.changes], [("a",), 2])

    def test_with_an_exception_that_is_passed_on(self):
        book = self.book()
        before = state(book)
        with self.assertRaises(Interrupted) as caught:
            self.fail(book)
        self.assertEqual(caught.exception.args, ("told",))
        self.assertEqual(state(book), before)
        book.undo()
        book.undo()
        self.assertEqual([book.titles, book.changes], [(), 0])

    def test_exceptions_of_all_kinds(self):
        for error in (ValueError, KeyError, StopIteration, KeyboardInterrupt, SystemExit, GeneratorExit, BaseException,
                      NothingToUndo, RecursionError):
            book = self.book()
            with self.assertRaises(error):
                with book.trial():
                    book["b"] = Borders(SQUARE)
                    raise error
            self.assertEqual([book.titles, book.changes], [("a",), 2])

    def test_errors_of_the_book_that_end_the_rows(self):
        book = self.book()
        with self.assertRaises(Broken):
            with book.trial():
                book["b"] = Borders(SQUARE)
                book["a"] = Borders(SQUARE)
        self.assertEqual([book.titles, book.changes], [("a",), 2])
        with book.trial():
            book["b"] = Borders(SQUARE)
            with self.assertRaises(Broken):
                book["a"] = Borders(SQUARE)
        self.assertEqual([book.titles, book.changes], [("a", "b"), 3])

    def test_undo_within_a_trial(self):
        book = self.book()
        before = state(book)
        with self.assertRaises(Interrupted):
            with book.trial():
                book.undo()
                book.undo()
                self.refused(book, NothingToUndo, {}, book.undo)
                book["q"] = Borders(ONE)
                raise Interrupted
        self.assertEqual(state(book), before)
        with book.trial():
            book.undo()
            book.undo()
        self.assertEqual([book.titles, book.changes], [(), 0])

    def test_the_state_is_that_when_the_rows_began(self):
        book = self.book()
        trial = book.trial()
        book["b"] = Borders(SQUARE)
        with self.assertRaises(Interrupted):
            with trial:
                book["c"] = Borders(SQUARE)
                raise Interrupted
        self.assertEqual([book.titles, book.changes], [("a", "b"), 3])

    def test_the_same_trial_again(self):
        book = self.book()
        trial = book.trial()
        for turn in range(3):
            with trial:
                book["b"] = Borders(SQUARE)
            with self.assertRaises(Interrupted):
                self.fail(book, trial)
            self.assertEqual([book.titles, book.changes], [("a", "b"), 3 + turn])

    def test_the_same_trial_within_itself(self):
        book = self.book()
        trial = book.trial()
        with self.assertRaises(KeyError):
            with trial as same:
                book["b"] = Borders(SQUARE)
                with self.assertRaises(Interrupted):
                    with trial as again:
                        self.assertIs(again, same)
                        book["c"] = Borders(SQUARE)
                        with trial:
                            book["d"] = Borders(SQUARE)
                        self.assertEqual(book.titles, ("a", "b", "c", "d"))
                        raise Interrupted
                self.assertEqual([book.titles, book.changes], [("a", "b"), 3])
                raise KeyError
        self.assertEqual([book.titles, book.changes], [("a",), 2])

    def test_trials_of_two_books(self):
        first, second = self.book(), self.book()
        with self.assertRaises(Interrupted):
            with first.trial(), second.trial():
                first["b"] = Borders(ONE)
                second["c"] = Borders(ONE)
                raise Interrupted
        self.assertEqual([first.titles, second.titles], [("a",), ("a",)])
        with first.trial():
            first["b"] = Borders(ONE)
            with self.assertRaises(Interrupted):
                self.fail(second)
        self.assertEqual([first.titles, second.titles], [("a", "b"), ("a",)])

    def test_leaving_the_rows_early(self):
        book = self.book()
        for turn in range(2):
            with book.trial():
                book["b"] = Borders(ONE)
                continue
        self.assertEqual([book.titles, book.changes], [("a", "b"), 4])

    def test_tried(self):
        book = self.book()
        for value in (None, 0, "told", (1, 2), [3], book):
            self.assertIs(book.tried(lambda told: value), value)
        self.assertIs(book.tried(lambda told: told), book)

        def act(told):
            told["b"] = Borders(SQUARE)
            return told.titles

        self.assertEqual(book.tried(act), ("a", "b"))
        self.assertEqual(book.changes, 3)

    def test_tried_with_an_exception(self):
        book = self.book()

        def act(told):
            told["b"] = Borders(SQUARE)
            told.undo()
            told.undo()
            raise Interrupted("told")

        before = state(book)
        with self.assertRaises(Interrupted) as caught:
            book.tried(act)
        self.assertEqual(caught.exception.args, ("told",))
        self.assertEqual(state(book), before)

    def test_tried_within_tried(self):
        book = self.book()

        def outer(told):
            told["b"] = Borders(SQUARE)
            with self.assertRaises(Interrupted):
                told.tried(inner)
            return told.titles

        def inner(told):
            told.remove("b")
            raise Interrupted

        self.assertEqual(book.tried(outer), ("a", "b"))
        self.assertEqual(book.changes, 3)
