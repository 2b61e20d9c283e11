import itertools
import string
import unittest

from cornerways.errors import BadValue, InvalidNumber, InvalidSizes, InvalidText
from cornerways.motifs import Borders
from cornerways.rooms import Room
from reading import is_room_text as right
from values import Claims, changed, others_than_integers, others_than_strings, others_than_tuples

NOOK = "x out, y+2 out, x-9 in, y out"


class Texts(unittest.TestCase):

    def wrong(self, text):
        with self.assertRaises(InvalidText) as caught:
            Room(text)
        self.assertIs(caught.exception.given, text)
        self.assertIsInstance(caught.exception, BadValue)
        self.assertIsInstance(caught.exception, ValueError)

    def agrees(self, text):
        if right(text):
            self.assertEqual(Room(text).text, text)
        else:
            self.wrong(text)

    def test_what_it_tells(self):
        nook = Room(NOOK)
        self.assertEqual(nook.text, NOOK)
        self.assertEqual(nook.sides, (("x", 0, "out"), ("y", 2, "out"), ("x", -9, "in"), ("y", 0, "out")))
        self.assertEqual(nook.letters, "xy")
        self.assertEqual(len(nook), 4)

    def test_by_name(self):
        self.assertEqual(Room(text=NOOK), Room(NOOK))
        self.assertEqual(Room(text=NOOK).sides, Room(NOOK).sides)

    def test_the_kinds_of_what_it_tells(self):
        nook = Room(NOOK)
        self.assertEqual([type(nook.text), type(nook.sides), type(nook.letters)], [str, tuple, str])
        for side in nook.sides:
            self.assertEqual([type(side)] + [type(value) for value in side], [tuple, str, int, str])

    def test_letters(self):
        for many in range(1, 5):
            for letters in itertools.product("xyz", repeat=many):
                room = Room(", ".join(f"{letter} in" for letter in letters))
                self.assertEqual(room.letters, "".join(sorted(set(letters))))
                self.assertEqual([side[0] for side in room.sides], list(letters))

    def test_numbers_of_sides(self):
        for many in range(1, 13):
            room = Room(", ".join(["z-1 in"] * many))
            self.assertEqual([len(room), room.sides], [many, (("z", -1, "in"),) * many])
        self.wrong(", ".join(["z-1 in"] * 13))
        self.wrong(", ".join(["x out"] * 13))
        self.wrong("")

    def test_plus(self):
        for number in range(1, 10):
            self.assertEqual(Room(f"y+{number} in").sides, (("y", number, "in"),))
            self.assertEqual(Room(f"y-{number} in").sides, (("y", -number, "in"),))
        self.assertEqual(Room("y in").sides, (("y", 0, "in"),))

    def test_wrong_plus(self):
        for plus in ("+0", "-0", "0", "1", "+", "-", "+10", "-10", "+01", "+1+1", "--1", "+-1", "+a", "+ 1", " +1", "*1",
                     "1+", "-1-", ">", "+1.", "\n"):
            self.wrong(f"x{plus} out")

    def test_wrong_letters_and_turns(self):
        for letter in ("", "w", "a", "X", "xy", "xx", "0", "+", "+1", ">"):
            self.wrong(f"{letter} out")
        for turn in ("", "o", "ou", "Out", "outt", "i", "inn", "out in", "x", "out ", "0>"):
            self.wrong(f"x {turn}")

    def test_nothing_else_stands_in_a_text(self):
        for text in ("x", "out", " ", "x out,", "x out, ", ", x out", ",x out", "x out,y out", "x out , y out",
                     "x out,  y out", "x out y out", "x  out", " x out", "x out ", "x out\n", "\nx out", "x\nout",
                     "x out,\ny out", "x out\ny out", "x out, , y out", "x out; y out", "x_out", "xout", "x out, out",
                     "x out, x", "out x", "x, out"):
            self.wrong(text)

    def test_to_the_letter(self):
        for text in changed(NOOK, string.printable[:95] + "\n"):
            self.agrees(text)

    def test_greatest_text_changed(self):
        for text in changed(", ".join(["x+1 in", "y out", "z-9 out"] * 4), " ,+-019xyz\n"):
            self.agrees(text)

    def test_values_of_other_kinds(self):
        for value in others_than_strings() + [Room("x out"), Borders("signs a"), ("x out", "y out"), ["x out"]]:
            self.wrong(value)


class Objects(unittest.TestCase):

    def test_equal_if_the_texts_are(self):
        self.assertTrue(Room(NOOK) == Room(NOOK))
        self.assertFalse(Room(NOOK) != Room(NOOK))
        self.assertFalse(Room("x out") == Room("x in"))
        self.assertTrue(Room("x out") != Room("x in"))
        self.assertFalse(Room("x out, y out") == Room("y out, x out"))
        self.assertTrue(Room("x out, y out, x out, y out") == Room.oblong())

    def test_never_equal_to_values_of_another_class(self):
        room = Room("x out")
        for value in others_than_strings() + ["x out", Borders("signs x"), Claims(), room.sides, 1]:
            self.assertIs(room == value, False)
            self.assertIs(room != value, True)
        self.assertFalse(room in ["x out", None, Borders("signs x")])
        self.assertTrue(room in ["x out", Room("x out")])

    def test_true(self):
        self.assertIs(bool(Room("x out")), True)
        self.assertIs(bool(Room(NOOK)), True)

    def test_str_is_the_text(self):
        self.assertEqual(str(Room(NOOK)), NOOK)
        self.assertIs(type(str(Room(NOOK))), str)

    def test_properties_are_not_set(self):
        room = Room(NOOK)
        for name in ("text", "sides", "letters"):
            with self.assertRaises(AttributeError):
                setattr(room, name, "x in")
        self.assertEqual(room, Room(NOOK))


class Lengths(unittest.TestCase):

    def wrong(self, text, sizes, index):
        room = Room(text)
        with self.assertRaises(InvalidSizes) as caught:
            room.lengths(sizes)
        self.assertIs(type(caught.exception.index), type(index))
        self.assertEqual(caught.exception.index, index)
        self.assertIsInstance(caught.exception, BadValue)
        self.assertIsInstance(caught.exception, ValueError)
        self.assertEqual(room, Room(text))

    def test_the_lengths_of_the_sides(self):
        self.assertEqual(Room(NOOK).lengths((9, 1)), (9, 3, 0, 1))
        self.assertEqual(Room(NOOK).lengths((20, 0)), (20, 2, 11, 0))
        self.assertEqual(Room("z+1 in, x out, y-2 out").lengths((5, 7, 11)), (12, 5, 5))
        self.assertEqual(Room("z in, y out, z-1 in").lengths((5, 7)), (7, 5, 6))
        self.assertIs(type(Room("x out").lengths((0,))), tuple)

    def test_sizes_stand_in_the_order_of_the_alphabet(self):
        self.assertEqual(Room("y out, x out").lengths((1, 2)), (2, 1))
        self.assertEqual(Room("z out").lengths((4,)), (4,))

    def test_by_name(self):
        self.assertEqual(Room(NOOK).lengths(sizes=(9, 1)), (9, 3, 0, 1))

    def test_no_room(self):
        self.assertIsNone(Room(NOOK).lengths((8, 1)))
        self.assertIsNone(Room(NOOK).lengths((0, 0)))
        self.assertIsNone(Room("x-1 out").lengths((0,)))
        self.assertIsNone(Room("x+9 out, y-1 out").lengths((10 ** 30, 0)))
        self.assertIsNone(Room("x-1 out, x out").lengths((0,)))

    def test_lengths_of_nothing_are_room_enough(self):
        self.assertEqual(Room("x out").lengths((0,)), (0,))
        self.assertEqual(Room("x-9 out").lengths((9,)), (0,))

    def test_the_greatest_sizes(self):
        self.assertEqual(Room("x+9 out, y-9 in").lengths((10 ** 30, 10 ** 30)), (10 ** 30 + 9, 10 ** 30 - 9))

    def test_sizes_out_of_bounds(self):
        self.wrong(NOOK, (10 ** 30 + 1, 1), 0)
        self.wrong(NOOK, (9, 10 ** 30 + 1), 1)
        self.wrong(NOOK, (-1, 1), 0)
        self.wrong(NOOK, (9, -1), 1)
        self.wrong(NOOK, (-1, -1), 0)
        self.wrong("x+9 out", (-1,), 0)

    def test_wrong_sizes_come_ahead_of_no_room(self):
        self.wrong(NOOK, (0, -1), 1)
        self.wrong(NOOK, (0,), None)

    def test_too_many_sizes(self):
        self.wrong("x out", (1, 2), 1)
        self.wrong(NOOK, (9, 1, 1), 2)
        self.wrong(NOOK, (9, 1, None, -1), 2)
        self.wrong(NOOK, (9, -1, 1), 1)
        self.wrong("x out, y out, z out", (1, 2, 3, 4, 5), 3)

    def test_too_few_sizes(self):
        self.wrong(NOOK, (9,), None)
        self.wrong(NOOK, (), None)
        self.wrong("x out", (), None)
        self.wrong("x out, y out, z out", (1, 2), None)
        self.wrong("x out, y out, z out", (1, -2), 1)
        self.wrong(NOOK, (True,), 0)

    def test_values_of_other_kinds_among_the_sizes(self):
        for value in others_than_integers() + [(9,), Room("x out")]:
            self.wrong(NOOK, (value, 1), 0)
            self.wrong(NOOK, (9, value), 1)
            self.wrong(NOOK, (9, value, value), 1)
            self.wrong("x out", (value,), 0)

    def test_truths_are_no_sizes(self):
        self.wrong("x out", (True,), 0)
        self.wrong("x out", (False,), 0)
        self.wrong(NOOK, (9, True), 1)

    def test_values_that_are_no_tuples(self):
        for value in others_than_tuples() + [[9, 1], [9], {9: 1}, {9, 1}, range(2), Room("x out")]:
            self.wrong(NOOK, value, None)
            self.wrong("x out", value, None)

    def test_equal_calls_tell_equal_things(self):
        room, sizes = Room(NOOK), (9, 1)
        self.assertEqual(room.lengths(sizes), room.lengths(sizes))
        self.assertEqual(sizes, (9, 1))


class Oblong(unittest.TestCase):

    def test_by_place(self):
        self.assertEqual(Room.oblong(-2).text, "x-2 out, y-2 out, x-2 out, y-2 out")
        self.assertEqual(Room.oblong(7).text, "x+7 out, y+7 out, x+7 out, y+7 out")

    def test_by_name(self):
        self.assertEqual(Room.oblong(by=-2), Room.oblong(-2))
        self.assertEqual(Room.oblong(by=0), Room.oblong())

    def test_without_its_argument(self):
        self.assertEqual(Room.oblong().text, "x out, y out, x out, y out")

    def test_each_plus(self):
        for by in range(-9, 10):
            room = Room.oblong(by)
            self.assertIsInstance(room, Room)
            self.assertEqual(room.sides, tuple((letter, by, "out") for letter in "xyxy"))
            self.assertEqual(room, Room(room.text))

    def test_what_is_no_plus(self):
        for value in others_than_integers() + [10, -10, 11, "+1", "-2", "1", Room("x out")]:
            with self.assertRaises(InvalidNumber) as caught:
                Room.oblong(value)
            self.assertIs(caught.exception.given, value)
            self.assertIsInstance(caught.exception, BadValue)
            self.assertIsInstance(caught.exception, ValueError)

    def test_what_is_no_plus_by_name(self):
        with self.assertRaises(InvalidNumber) as caught:
            Room.oblong(by=True)
        self.assertIs(caught.exception.given, True)
