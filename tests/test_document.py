"""The examples of the document and of README.md come out as they are printed there."""

import doctest
import pathlib
import unittest

from cornerways.checker import accepts
from cornerways.closing import least_border, least_cost, ways
from cornerways.motifs import Borders
from cornerways.papers import paper_of_always, paper_of_cost, paper_of_floor
from cornerways.rooms import Room
from cornerways.sides import beginnings, calendar, least_filling, shown, side_cost, walk
from cornerways.sizes import always, count_both, count_closing, dearest, enough, failing
from samples import DOCUMENT, FREE, PLAIN, SQUARE

README = pathlib.Path(__file__).resolve().parent.parent / "README.md"


class Document(unittest.TestCase):

    def test_motifs(self):
        borders = Borders("signs abc\npiece gap 0> 1> long 2 cost 5\ncorner turn out 0> 0> cost 0\n"
                          "corner turn out 1> 2> cost 1\ncorner nook in 0> 2< cost 3")
        told = [borders.states, borders.pieces, borders.corners[2], borders.names, borders.only(("nook",)).corners]
        self.assertEqual(repr(told), "[('0<', '0>', '1<', '1>', '2<', '2>'), (('gap', '0>', '1>', 2, 5),), "
                                     "('nook', 'in', '0>', '2<', 3), ('nook', 'turn'), "
                                     "(('nook', 'in', '0>', '2<', 3),)]")

    def test_rooms(self):
        nook = Room("x out, y+2 out, x-9 in, y out")
        told = [nook.sides[1:3], nook.letters, nook.lengths((9, 1)), nook.lengths((8, 1)), str(Room.oblong(-2)),
                len(nook)]
        self.assertEqual(repr(told), "[(('y', 2, 'out'), ('x', -9, 'in')), 'xy', (9, 3, 0, 1), None, "
                                     "'x-2 out, y-2 out, x-2 out, y-2 out', 4]")

    def test_sides(self):
        borders, plain = Borders(DOCUMENT), Borders(PLAIN)
        told = [shown(plain, "1>", 4), shown(plain, "1<", 4), beginnings(plain, "cab"), beginnings(plain, "")[:2],
                beginnings(plain, "aa")]
        self.assertEqual(repr(told), "['bcab', 'acba', ('2>',), ('0<', '0>'), ()]")
        told = [walk(borders, "2>", (1, "gap", 3)), walk(borders, "2>", ("gap",)), side_cost(borders, 3, "0>", "2>"),
                side_cost(borders, 2, "0>", "0>"), side_cost(borders, 10 ** 30, "0>", "1>")]
        self.assertEqual(repr(told), "[('1>', 6, 5), None, 5, None, 0]")
        told = [calendar(plain), calendar(borders), least_filling(borders, 4, "0>", "1>"),
                least_filling(borders, 2, "0>", "1>")]
        self.assertEqual(repr(told), "[0, 8, (4,), ('gap',)]")

    def test_closing(self):
        square, free = Borders(SQUARE), Borders(FREE)
        told = [least_cost(square, Room.oblong(), (3, 6)), least_cost(square, Room.oblong(), (3, 5)),
                least_border(square, Room.oblong(), (3, 0)), ways(square, Room.oblong(), (6, 3))]
        self.assertEqual(repr(told), "[0, None, ('0>', (((3,), 0), ((), 0), ((3,), 0), ((), 0))), 1]")
        told = [least_cost(free, Room.oblong(), (1, 2)), least_cost(free, Room("x out"), (3,)),
                ways(free, Room("x out"), (4,))]
        self.assertEqual(repr(told), "[4, None, 2]")

    def test_sizes(self):
        square, free = Borders(SQUARE), Borders(FREE)
        told = [always(square, Room.oblong()), failing(square, Room.oblong()), dearest(square, Room.oblong()),
                count_closing(square, Room.oblong(), 10 ** 30), count_both(square, Room.oblong(), Room.oblong(-3), 8)]
        self.assertEqual(repr(told), "[False, (0, 1), (0, (0, 0)), "
                                     "111111111111111111111111111111555555555555555555555555555556, 4]")
        told = [failing(free, Room.oblong()), always(free, Room("x out, x out")), enough(free, Room.oblong()),
                dearest(free, Room.oblong())]
        self.assertEqual(repr(told), "[None, True, (('turn',),), (4, (0, 0))]")

    def test_papers(self):
        square, free = Borders(SQUARE), Borders(FREE)
        first, second, third = (paper_of_cost(free, Room.oblong(), (1, 2)), paper_of_floor(free, Room.oblong(), (1, 2)),
                                paper_of_always(square, Room.oblong()))
        told = [first[0][0], first[0][4], accepts(first[0], first[1]), second[0][0], second[0][4],
                accepts(second[0], second[1]), third[0][0], accepts(third[0], third[1]), accepts(first[0], None)]
        self.assertEqual(repr(told), "['closes', 4, True, 'at least', 4, True, 'fails', True, False]")

    def test_samples_are_the_border_books_of_the_examples(self):
        self.assertEqual(DOCUMENT, "signs abc\npiece gap 0> 1> long 2 cost 5\ncorner turn out 0> 0> cost 0\n"
                                   "corner turn out 1> 2> cost 1\ncorner nook in 0> 2< cost 3")
        self.assertEqual([PLAIN, SQUARE], ["signs abc", "signs abc\ncorner turn out 0> 0> cost 0"])
        self.assertEqual(FREE, "signs ab\ncorner turn out 0> 0> cost 1\ncorner turn out 1> 1> cost 1\n"
                               "corner flip out 0> 0< cost 4")

    def test_texts_of_the_definitions(self):
        self.assertEqual(len(Borders("signs abc\npiece gap 0> 1> long 2 cost 5\ncorner turn out 0> 0> cost 0\n"
                                     "corner turn out 1> 2> cost 1\ncorner nook in 0> 2< cost 3").corners), 3)
        self.assertEqual([Borders("signs abc").corners, Borders("signs abc\ncorner turn out 0> 0> cost 0").pieces],
                         [(), ()])
        self.assertEqual(Borders("signs ab\ncorner turn out 0> 0> cost 1\ncorner turn out 1> 1> cost 1\n"
                                 "corner flip out 0> 0< cost 4").names, ("flip", "turn"))
        self.assertEqual([Room("x out").letters, Room("x out, x out").letters, Room.oblong(-3).letters],
                         ["x", "x", "xy"])


class Readme(unittest.TestCase):

    def test_examples(self):
        told = doctest.testfile(str(README), module_relative=False, encoding="utf-8")
        self.assertGreater(told.attempted, 10)
        self.assertEqual(told.failed, 0)
