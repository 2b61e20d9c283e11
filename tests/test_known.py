"""Corners that keep all phases, one phase alone, or turn the motif about: what they do is known without a search."""

import itertools
import unittest

import samples
from cornerways.books import Book
from cornerways.checker import accepts
from cornerways.errors import Broken
from cornerways.mends import mending
from cornerways.motifs import Borders
from cornerways.papers import paper_of_always, paper_of_cost, paper_of_floor, paper_of_unlike
from cornerways.rooms import Room
from reading import reads

TOP = 10 ** 30
ROOMS = ("x out", "x out, x out", "x out, y out, x out, y out", "x+1 out, y-2 out, x out", "x-3 out, y out, y+5 out",
         "x out, x-1 out, x+1 out, x-2 out, x+2 out", "y out, z-2 out, y out, z out")


def kinds():
    """Triples (border book, length of the motif, whether it closes with these lengths); a corner costs 2."""
    for many in range(1, 6):
        signs = f"signs {samples.SIGNS[:many]}"
        yield signs + samples.keeping(many, 2), many, lambda lengths, p: sum(lengths) % p == 0
        yield (signs + "\ncorner one out 0> 0> cost 2", many,
               lambda lengths, p: all(length % p == 0 for length in lengths))
        yield (signs + samples.turning(many, 2), many,
               lambda lengths, p: len(lengths) % 2 == 0 and (sum(lengths[::2]) - sum(lengths[1::2])) % p == 0)


def cases():
    """Tuples (border book, room, first failing sizes or None, a dict of the sizes that close)."""
    for text, many, closes in kinds():
        for room in ROOMS:
            made = Room(room)
            closing = {}
            for sizes in itertools.product(range(9 + many), repeat=len(made.letters)):
                lengths = made.lengths(sizes)
                if lengths is not None:
                    closing[sizes] = closes(lengths, many)
            fails = [sizes for sizes in closing if not closing[sizes]]
            yield text, room, min(fails, key=lambda sizes: (sum(sizes), sizes), default=None), closing


class Known(unittest.TestCase):

    def accepted(self, told):
        self.assertIs(accepts(told[0], told[1]), True)
        self.assertIs(reads(told[0], told[1]), True)
        return told

    def test_papers_for_all_sizes(self):
        words = []
        for text, room, fails, closing in cases():
            claim, paper = self.accepted(paper_of_always(Borders(text), Room(room)))
            if fails is None:
                self.assertEqual(claim, ("always", text, room))
                self.assertEqual(sorted(sizes for sizes, border in paper), sorted(closing))
            else:
                self.assertEqual([claim, paper[0]], [("fails", text, room), fails])
            words.append(claim[0])
        self.assertGreater(words.count("always"), 15)
        self.assertGreater(words.count("fails"), 50)

    def test_papers_for_told_sizes(self):
        for text, room, fails, closing in cases():
            for sizes in list(closing)[::37]:
                cost = 2 * len(Room(room))
                told = paper_of_cost(Borders(text), Room(room), sizes)
                floor = self.accepted(paper_of_floor(Borders(text), Room(room), sizes))[0]
                if closing[sizes]:
                    self.assertEqual(self.accepted(told)[0], ("closes", text, room, sizes, cost))
                    self.assertEqual(floor, ("at least", text, room, sizes, cost))
                else:
                    self.assertIsNone(told)
                    self.assertEqual(floor, ("not", text, room, sizes))

    def test_papers_for_the_greatest_sizes(self):
        for text, room, fails, closing in cases():
            made, many = Room(room), len(Borders(text).signs)
            for sizes in list(closing)[:many]:
                great = tuple(size + (TOP - 9 - many) // many * many for size in sizes)
                claim = self.accepted(paper_of_floor(Borders(text), made, great))[0]
                self.assertEqual(claim[0] == "at least", closing[sizes])

    def test_claims_of_books(self):
        for text, room, fails, closing in cases():
            book, cost = Book(), 2 * len(Room(room))
            book["a"] = Borders(text)
            if fails is None:
                book.claim(("always", "a", room))
            else:
                with self.assertRaises(Broken) as caught:
                    book.claim(("always", "a", room))
                self.assertEqual([caught.exception.index, caught.exception.shown], [0, fails])
            many = len(book.claims)
            for sizes in list(closing)[::41]:
                if closing[sizes]:
                    book.claim(("at most", "a", room, sizes, cost))
                    many += 1
                with self.assertRaises(Broken) as caught:
                    book.claim(("at most", "a", room, sizes, cost - 1))
                self.assertEqual([caught.exception.index, caught.exception.shown],
                                 [many, cost if closing[sizes] else None])

    def test_dearer_corners(self):
        for text, room, fails, closing in cases():
            dearer, sizes = text.replace("cost 2", "cost 3"), [sizes for sizes in closing if closing[sizes]]
            least = min(sizes, key=lambda row: (sum(row), row), default=None)
            told = paper_of_unlike(Borders(text), Borders(dearer), Room(room))
            book = Book()
            book["a"], book["b"] = Borders(text), Borders(dearer)
            if least is None:
                self.assertIsNone(told)
                book.claim(("alike", "a", "b", room))
            else:
                claim, paper = self.accepted(told)
                self.assertEqual([claim, paper[:2]], [("unlike", text, dearer, room), (least, 1)])
                with self.assertRaises(Broken) as caught:
                    book.claim(("alike", "a", "b", room))
                self.assertEqual([caught.exception.index, caught.exception.shown], [0, least])
            self.assertIsNone(paper_of_unlike(Borders(text), Borders(text), Room(room)))

    def test_mendings(self):
        # A filler of one sign helps wherever a border comes past its phase; without room for it nothing is sure.
        filler = "piece pad 0> 0> long 1 cost 1"
        for many in range(1, 6):
            one = f"signs {samples.SIGNS[:many]}\ncorner one out 0> 0> cost 2"
            for room in ROOMS:
                needed = () if many == 1 else (0,)
                self.assertEqual(mending(Borders(one), Room(room), ("always",), (filler,)), (needed,))
                sides = len(Room(room))
                dear = 2 * sides if many == 1 else sides * (2 + many - 1)
                self.assertEqual(mending(Borders(one), Room(room), ("at most", dear), (filler,)), (needed,))
                # Sides with other letters may have any rests; on those with one letter they hang together.
                if room == "x out, y out, x out, y out":
                    self.assertEqual(mending(Borders(one), Room(room), ("at most", dear - 1), (filler,)), ())

    def test_what_takes_the_place_of_what(self):
        for many in range(2, 6):
            signs = f"signs {samples.SIGNS[:many]}"
            lines = ("corner far out 1> 1> cost 2", "piece pad 1> 1> long 1 cost 0", "piece pad 0> 0> long 1 cost 0")
            keep = Borders(signs + "\ncorner one out 0> 0> cost 2")
            self.assertEqual(mending(keep, Room("x out"), ("always",), lines[:2]), ((0, 1),))
            self.assertEqual(mending(keep, Room("x out"), ("always",), lines[::2]), ((1,),))
