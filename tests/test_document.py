"""The examples of the document and of README.md come out as they are printed there."""

import doctest
import pathlib
import unittest

from cornerways.motifs import Borders
from cornerways.rooms import Room

README = pathlib.Path(__file__).resolve().parent.parent / "README.md"


class Document(unittest.TestCase):

    def test_motifs(self):
        borders = Borders("signs abc\npiece gap 0> 1> long 2 cost 5\ncorner turn out 0> 0> cost 0\n"
                          "corner turn out 1> 2> cost 1\ncorner nook in 0> 2< cost 3")
        told = [borders.states, borders.pieces, borders.corners[2], borders.names, borders.only(("nook",)).corners]
        self.assertEqual(repr(told), "[('0<', '0>', '1<', '1>', '2<', '2>'), (('gap', '0>', '1>', 2, 5),), "
                                     "('nook', 'in', '0>', '2<', 3), ('nook', 'turn'), "
                                     "(('nook', 'in', '0>', '2<', 3),)]")

    def test_rooms(self):
        nook = Room("x out, y+2 out, x-9 in, y out")
        told = [nook.sides[1:3], nook.letters, nook.lengths((9, 1)), nook.lengths((8, 1)), str(Room.oblong(-2)),
                len(nook)]
        self.assertEqual(repr(told), "[(('y', 2, 'out'), ('x', -9, 'in')), 'xy', (9, 3, 0, 1), None, "
                                     "'x-2 out, y-2 out, x-2 out, y-2 out', 4]")

    def test_texts_of_the_definitions(self):
        self.assertEqual(len(Borders("signs abc\npiece gap 0> 1> long 2 cost 5\ncorner turn out 0> 0> cost 0\n"
                                     "corner turn out 1> 2> cost 1\ncorner nook in 0> 2< cost 3").corners), 3)
        self.assertEqual([Borders("signs abc").corners, Borders("signs abc\ncorner turn out 0> 0> cost 0").pieces],
                         [(), ()])
        self.assertEqual(Borders("signs ab\ncorner turn out 0> 0> cost 1\ncorner turn out 1> 1> cost 1\n"
                                 "corner flip out 0> 0< cost 4").names, ("flip", "turn"))
        self.assertEqual([Room("x out").letters, Room("x out, x out").letters, Room.oblong(-3).letters],
                         ["x", "x", "xy"])


class Readme(unittest.TestCase):

    def test_examples(self):
        told = doctest.testfile(str(README), module_relative=False, encoding="utf-8")
        self.assertGreater(told.attempted, 10)
        self.assertEqual(told.failed, 0)
