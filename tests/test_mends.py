"""Mendings held against a trial of all sets of lines."""

import functools
import itertools
import unittest

import samples
from cornerways.errors import BadValue, InvalidLines, InvalidWish, NoAnswer, NotARoom, NotBorders, TooMany
from cornerways.mends import mending
from cornerways.motifs import Borders
from cornerways.rooms import Room
from cornerways.sizes import dearest
from samples import FREE, OBLONG, PLAIN, SQUARE, kind_book, some_room
from search import Survey, letters_of, lengths, search, sides_of, table_size
from values import Claims, nested, others, others_than_integers, others_than_strings

ALWAYS = ("always",)
FILLER = "piece pad 0> 0> long 1 cost 9"
KEEP = ("corner a out 1> 1> cost 0", "corner a out 2> 2> cost 0")


def with_line(text, line):
    """The text with one line more, at its place."""
    rows = text.split("\n")
    kinds = [row.split(" ")[0] for row in rows]
    at = len(rows) if line.startswith("corner ") else len(rows) - kinds.count("corner")
    return "\n".join(rows[:at] + [line] + rows[at:])


def with_lines(text, lines):
    return functools.reduce(with_line, lines, text)


@functools.lru_cache(maxsize=None)
def costs(text, room):
    """The least costs for all sizes with a room up to a number beyond the table."""
    plus = min(side[1] for side in sides_of(room))
    survey = Survey(text, room, search(text).calendar(100) + max(0, -plus) + search(text).many)
    return [survey.costs[sizes] for sizes in survey.sizes if lengths(survey.sides, sizes) is not None]


def holds(text, room, wish):
    most = 10 ** 9 if wish == ALWAYS else wish[1]
    return all(cost is not None and cost <= most for cost in costs(text, room))


def sets_of(lines):
    return [chosen for many in range(len(lines) + 1) for chosen in itertools.combinations(range(len(lines)), many)]


def tried(text, room, wish, lines):
    """All least sets, by a trial of all sets."""
    does = [chosen for chosen in sets_of(lines)
            if holds(with_lines(text, [lines[index] for index in chosen]), room, wish)]
    return tuple(chosen for chosen in does if not any(set(other) < set(chosen) for other in does))


def some_lines(source, text, many):
    """Lines that can be added one behind the other."""
    lines = []
    phases = search(text).many
    while len(lines) < many:
        a, b = source.randrange(phases), source.choice((0, source.randrange(phases)))
        if source.random() < 0.4:
            line = (f"piece {source.choice('abcdefgh')} {a}> {source.choice((a, b))}> "
                    f"long {source.choice((1, 1, 2, 3))} cost {source.choice((0, 1, 4, 9))}")
        else:
            line = (f"corner {source.choice('abc')} {source.choice(('out', 'out', 'in'))} {a}{source.choice('>><')} "
                    f"{b}> cost {source.choice((0, 2, 5))}")
        try:
            Borders(with_lines(text, lines + [line]))
        except BadValue:
            continue
        lines.append(line)
    return tuple(lines)


def needy_book(source, most_signs, most_pieces):
    """A border book with few lines."""
    rows = [f"signs {'abc'[:source.randint(1, most_signs)]}"]
    lines = some_lines(source, rows[0], source.randint(1, 1 + most_pieces))
    return with_lines(rows[0], lines + ("corner z out 0> 0> cost 0",))


def rows(seed, many, letters="xy"):
    """Rows (border book, room, lines) with small tables."""
    source = samples.seeded(seed)
    while many > 0:
        text = source.choice((needy_book, kind_book))(source, 3, 1)
        room = some_room(source, letters, 2, 2, ("out",) * 9 + ("in",))
        lines = some_lines(source, text, source.choice((0, 1, 2, 3, 4, 4, 4)))
        if table_size(with_lines(text, lines), room) <= 150:
            many -= 1
            yield text, room, lines


class Mendings(unittest.TestCase):

    def agrees(self, text, room, wish, lines):
        told = mending(Borders(text), Room(room), wish, lines)
        self.assertEqual(told, tried(text, room, wish, lines), (text, room, wish, lines))
        self.assertEqual([type(told)] + [type(chosen) for chosen in told], [tuple] * (len(told) + 1))
        return told

    def test_always(self):
        told = [self.agrees(text, room, ALWAYS, lines) for text, room, lines in rows(501, 80)]
        self.assertGreater(told.count(()), 5)
        self.assertGreater(told.count(((),)), 5)
        self.assertGreater(len(set(told)), 8)
        self.assertTrue(any(len(sets) > 1 for sets in told))

    def test_at_most(self):
        told = []
        for text, room, lines in rows(503, 60):
            for cost in (0, 1, 4, 9, 20, 1000):
                told.append(self.agrees(text, room, ("at most", cost), lines))
        self.assertGreater(told.count(()), 20)
        self.assertGreater(told.count(((),)), 20)
        self.assertGreater(len(set(told)), 8)
        self.assertTrue(any(len(sets) > 1 for sets in told))

    def test_the_least_cost_with_which_it_holds(self):
        for text, room, lines in rows(505, 25):
            for chosen in sets_of(lines):
                told = costs(with_lines(text, [lines[index] for index in chosen]), room)
                if None not in told:
                    most = max(told)
                    self.assertIn(True, [set(part) <= set(chosen) for part in
                                         self.agrees(text, room, ("at most", most), lines)])
                    if most > 0:
                        self.assertNotIn(True, [set(part) <= set(chosen) for part in
                                                self.agrees(text, room, ("at most", most - 1), lines)])

    def test_no_lines(self):
        self.assertEqual(mending(Borders(SQUARE), Room(OBLONG), ALWAYS, ()), ())
        self.assertEqual(mending(Borders(FREE), Room(OBLONG), ALWAYS, ()), ((),))
        self.assertEqual(mending(Borders(FREE), Room(OBLONG), ("at most", 4), ()), ((),))
        self.assertEqual(mending(Borders(FREE), Room(OBLONG), ("at most", 3), ()), ())

    def test_one_line_that_helps(self):
        borders = Borders(SQUARE)
        self.assertEqual(mending(borders, Room(OBLONG), ALWAYS, KEEP + (FILLER,)), ((2,),))
        self.assertEqual(mending(borders, Room(OBLONG), ALWAYS, (FILLER,) + KEEP), ((0,),))
        self.assertEqual(mending(borders, Room(OBLONG), ("at most", 1000), KEEP + (FILLER,)), ((2,),))
        self.assertEqual(mending(borders, Room(OBLONG), ALWAYS, KEEP), ())

    def test_lines_that_help_together(self):
        borders = Borders("signs ab\ncorner c out 0> 0> cost 0")
        lines = ("corner c out 1> 1> cost 0", "piece p 1> 0> long 2 cost 3", "corner d out 1> 0> cost 7",
                 "piece q 0> 0> long 1 cost 8")
        for wish in (ALWAYS, ("at most", 16), ("at most", 14), ("at most", 7), ("at most", 0)):
            told = self.agrees(borders.text, "x out, x+1 out", wish, lines)
            self.assertEqual(told == (), wish == ("at most", 0))
        self.assertEqual(self.agrees(borders.text, "x out", ALWAYS, lines), ((2,), (3,)))

    def test_sets_are_ordered_by_length_and_then_as_tuples(self):
        text = "signs ab\ncorner c out 0> 0> cost 0"
        lines = ("piece p 0> 1> long 1 cost 1", "corner c out 1> 0> cost 1", "corner d out 1> 1> cost 1",
                 "piece q 0> 0> long 1 cost 1")
        for order in itertools.permutations(range(4)):
            told = self.agrees(text, "x out", ("at most", 1), tuple(lines[at] for at in order))
            self.assertEqual(list(told), sorted(told, key=lambda chosen: (len(chosen), chosen)))
            self.assertGreater(len(told), 1)

    def test_pairs_of_lines(self):
        text = "signs ab\ncorner c out 0> 0> cost 0"
        lines = ("piece p 0> 0< long 1 cost 0", "piece q 0> 1< long 1 cost 0", "corner d out 1< 0> cost 0",
                 "corner e out 0< 0> cost 0")
        self.assertEqual(mending(Borders(text), Room("x out"), ALWAYS, lines), ((0, 3), (1, 2)))
        self.assertEqual(mending(Borders(text), Room("x out"), ("at most", 0), lines), ((0, 3), (1, 2)))
        for order in itertools.permutations(range(4)):
            told = self.agrees(text, "x out", ALWAYS, tuple(lines[at] for at in order))
            self.assertEqual(list(told), sorted(told))
            self.assertEqual({frozenset(order[at] for at in pair) for pair in told},
                             {frozenset((0, 3)), frozenset((1, 2))})

    def test_the_greatest_cost_and_the_least_one(self):
        text = "signs a\ncorner c out 0> 0> cost 9"
        room = ", ".join(["x out"] * 12)
        self.assertEqual(mending(Borders(text), Room(room), ("at most", 108), ()), ((),))
        self.assertEqual(mending(Borders(text), Room(room), ("at most", 107), ()), ())
        self.assertEqual(mending(Borders(text), Room(room), ("at most", 0), ("corner c out 0> 0> cost 0",)), ((0,),))
        self.assertEqual(mending(Borders(text), Room(room), ("at most", 1000), ("corner c out 0> 0> cost 0",)), ((),))

    def test_a_piece_stands_behind_the_pieces(self):
        text = "signs ab\npiece p 0> 0> long 3 cost 9\ncorner c out 0> 0> cost 0"
        told = mending(Borders(text), Room("x out"), ("at most", 1), (
            "corner d in 0> 0> cost 0", "piece q 0> 0> long 1 cost 1"))
        self.assertEqual(told, ((1,),))

    def test_what_is_given_is_not_changed(self):
        borders, room, wish, lines = Borders(SQUARE), Room(OBLONG), ("at most", 50), KEEP + (FILLER,)
        first = mending(borders, room, wish, lines)
        self.assertEqual(mending(lines=lines, wish=wish, room=room, borders=borders), first)
        self.assertEqual([borders.text, room.text, wish, lines], [SQUARE, OBLONG, ("at most", 50), KEEP + (FILLER,)])


class TooManySizes(unittest.TestCase):

    # The filler alone makes the calendar 4 here, and the table of such a room too great.
    TEXT = "signs abcde" + samples.keeping(5)
    LINES = tuple(samples.fillers(5, 9).split("\n")[1:5])

    def raises(self, *arguments):
        with self.assertRaises(TooMany) as caught:
            mending(*arguments)
        self.assertEqual(caught.exception.limit, 900)
        self.assertIsInstance(caught.exception, NoAnswer)

    def test_with_any_set_of_the_lines(self):
        source = samples.seeded(521)
        kinds = set()
        for text, room, lines in list(rows(523, 60)):
            # One more letter or a lower plus makes some of the tables too great.
            wide = ", ".join(f"{letter}-{source.randint(1, 9)} out" for letter in "xyz"[:source.randint(2, 3)])
            sizes = [table_size(with_lines(text, [lines[index] for index in chosen]), wide)
                     for chosen in sets_of(lines)]
            wish = ("at most", source.choice((0, 9, 1000)))
            if max(sizes) > 900:
                self.raises(Borders(text), Room(wide), wish, lines)
            else:
                mending(Borders(text), Room(wide), wish, lines)
            kinds.add((sizes[0] > 900, max(sizes) > 900, sizes[-1] > 900))
            mending(Borders(text), Room(wide), ALWAYS, lines)
        self.assertGreaterEqual(kinds, {(False, False, False), (False, True, True), (True, True, True)})

    def test_neither_the_empty_set_nor_the_whole_one(self):
        # A dear filler makes the calendar great, a cheap one beside it makes it small again.
        text, lines = "signs a\ncorner c out 0> 0> cost 0", ()
        dear, cheap = "piece p 0> 0< long 6 cost 0", "piece q 0> 0< long 1 cost 0"
        calendars = [search(with_lines(text, part)).calendar() for part in ((), (dear,), (dear, cheap))]
        self.assertEqual(calendars, [0, 6, 1])
        room = "x-9 out, y-9 out, z-1 out"
        lines = (dear, cheap)
        sizes = [table_size(with_lines(text, [lines[index] for index in chosen]), room) for chosen in sets_of(lines)]
        self.assertEqual(sizes, [200, 2048, 363, 363])
        self.raises(Borders(text), Room(room), ("at most", 0), lines)
        self.raises(Borders(text), Room(room), ("at most", 1000), lines[::-1])
        self.assertEqual(mending(Borders(text), Room(room), ALWAYS, lines), ((),))
        self.assertEqual(mending(Borders(text), Room(room), ("at most", 0), lines[1:]), ((),))

    def test_tables_of_900_sizes_and_of_more(self):
        text, line = "signs a\ncorner c out 0> 0> cost 0", "piece p 0> 0< long 1 cost 0"
        for room, many in (("x-8 out, y-8 out, z-7 out", 900), ("x-8 out, y-8 out, z-8 out", 1000)):
            self.assertEqual(table_size(with_line(text, line), room), many)
            if many > 900:
                self.raises(Borders(text), Room(room), ("at most", 0), (line,))
            else:
                self.assertEqual(mending(Borders(text), Room(room), ("at most", 0), (line,)), ((),))
            self.assertEqual(mending(Borders(text), Room(room), ALWAYS, (line,)), ((),))
            self.assertEqual(mending(Borders(text), Room(room), ("at most", 0), ()), ((),))

    def test_where_dearest_raises_it(self):
        for text, room, lines in list(rows(525, 20)):
            wide = room + ", x-9 out, y-9 out, z-5 out"
            raised = False
            for chosen in sets_of(lines):
                try:
                    dearest(Borders(with_lines(text, [lines[index] for index in chosen])), Room(wide))
                except TooMany:
                    raised = True
            if raised:
                self.raises(Borders(text), Room(wide), ("at most", 9), lines)
            else:
                mending(Borders(text), Room(wide), ("at most", 9), lines)

    def test_it_is_looked_for_last(self):
        borders, room = Borders(samples.fillers(5)), Room("x-9 out, y-9 out, z-9 out")
        self.raises(borders, room, ("at most", 0), ())
        for error, arguments in ((NotBorders, (None, room, ("at most", 0), ())),
                                 (NotARoom, (borders, None, ("at most", 0), ())),
                                 (InvalidWish, (borders, room, ("at most", -1), ())),
                                 (InvalidLines, (borders, room, ("at most", 0), ("",)))):
            self.assertRaises(error, mending, *arguments)


class Wrong(unittest.TestCase):

    def wish(self, wish):
        with self.assertRaises(InvalidWish) as caught:
            mending(Borders(FREE), Room(OBLONG), wish, None)
        self.assertIs(caught.exception.given, wish)
        self.assertIsInstance(caught.exception, BadValue)

    def lines(self, lines, index, text=FREE):
        with self.assertRaises(InvalidLines) as caught:
            mending(Borders(text), Room("x-9 out, y-9 out, z-9 out"), ("at most", 4), lines)
        self.assertEqual(caught.exception.index, index)
        self.assertIs(type(caught.exception.index), type(index))
        self.assertIsInstance(caught.exception, BadValue)

    def test_wishes(self):
        for wish in others() + ["always", "at most", (), ("",), ("Always",), ("always", 0), ("always", None),
                                ("at most",), ("at most", 1, 1), ("always", "always"), ("at most", "0"), ("at most ", 0),
                                (None,),
                                ("alike",), (0,), ((),), ("at most", (0,)), ("at most", 1001), ("at most", -1),
                                ["always"], ["at most", 0], (Claims(),), (Claims(), 0), ("at most", Claims()),
                                (b"always",), (("always",),), nested(10), ("at most", nested(9)), Borders(FREE), 0, 1]:
            self.wish(wish)
        for number in others_than_integers():
            self.wish(("at most", number))

    def test_the_numbers_of_wishes(self):
        for cost in (0, 1, 999, 1000):
            mending(Borders(FREE), Room("x out"), ("at most", cost), ())
        for cost in (-1, 1001, 10 ** 39, -10 ** 39, True, False):
            self.wish(("at most", cost))

    def test_no_rows(self):
        for lines in others() + [0, 1, "", FILLER, [FILLER], [], nested, Borders(FREE), {FILLER: 1}, Claims()]:
            self.lines(lines, None)

    def test_values_that_are_no_lines(self):
        for line in others_than_strings() + ["", " ", "signs ab", FILLER + "\n", "\n" + FILLER, "piece p", "corner",
                                             FREE, FILLER + "\n" + FILLER, FILLER.replace("cost 9", "cost 10"),
                                             FILLER + " ", FILLER.replace("0>", "2>"), (FILLER,), [FILLER]]:
            self.lines((line,), 0)
            self.lines((FILLER, line), 1)
            self.lines((FILLER, line, line, line, line, line), 1)
            self.lines((FILLER, "corner e in 0> 0> cost 1", "corner e in 0> 1> cost 1", line), 3)
            self.lines((FILLER, "corner e in 0> 0> cost 1", "corner e in 0> 1> cost 1", line, FILLER), 3)

    def test_the_fifth_line(self):
        good = tuple(f"piece p{name} 0> 0> long 1 cost {at}" for at, name in enumerate("abcdef"))
        self.assertEqual(mending(Borders(FREE), Room("x out"), ALWAYS, good[:4]), ((0,), (1,), (2,), (3,)))
        for lines in (good[:5], good, good[:4] + (None,), good[:4] + ("",) * 3, good[:4] + good[:1]):
            self.lines(lines, 4)
        self.lines(good[:2] + good[:3], 2)
        self.lines(good[:3] + ("",) + good[3:], 3)

    def test_lines_that_can_be_added_alone_but_not_together(self):
        self.lines((FILLER, FILLER), 1)
        self.lines((FILLER, "piece pad 1> 1> long 2 cost 0"), 1)
        self.lines(("corner e in 0> 0> cost 1",) * 2, 1)
        self.lines(("corner e in 0> 0> cost 1", FILLER, "corner e in 0> 0> cost 1"), 2)
        names = tuple(f"corner {name} in 0> 0> cost 1" for name in "abcd")
        self.lines(names, 2)
        self.lines(names, 3, SQUARE)
        self.lines(names[:3] + (FILLER,) + names[3:], 4, PLAIN)
        mending(Borders(PLAIN), Room("x out"), ALWAYS, names)

    def test_lines_that_the_border_book_has(self):
        self.lines(("corner flip out 0> 0< cost 4",), 0)
        self.lines((FILLER, "corner turn out 0> 0> cost 1"), 1)

    def test_full_border_books(self):
        pieces = "".join(f"\npiece {name} 0> 0> long 1 cost 0" for name in "abcdefg")
        self.lines((FILLER, FILLER.replace("pad", "pat")), 1, PLAIN + pieces)
        corners = "".join(f"\ncorner a out 0> 0> cost {cost}" for cost in range(10)) + "\ncorner a out 1> 0> cost 0"
        self.lines(KEEP, 1, PLAIN + corners)
        self.lines((FILLER,) + KEEP, 2, PLAIN + corners)
