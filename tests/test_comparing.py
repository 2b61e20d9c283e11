import itertools
import unittest

import samples
from cornerways.closing import least_cost
from cornerways.comparing import alike, never_dearer, parting
from cornerways.errors import NotARoom
from cornerways.motifs import Borders
from cornerways.rooms import Room
from samples import kind_pairs
from search import Survey, letters_of, search, sides_of, table_size
from test_sizes import raises_too_many

TOP = 10 ** 30


def common(text, other):
    """The least common multiple of both p, and the greater calendar."""
    first, second = search(text).many, search(other).many
    many = [number for number in range(1, first * second + 1) if number % first == number % second == 0][0]
    return many, max(search(text).calendar(), search(other).calendar())


def far(text, other, room):
    many, since = common(text, other)
    return since + max(0, -min(side[1] for side in sides_of(room))) + 2 * many


def small_triples(seed, many, most_plus=3):
    """Triples of two border books and a room, with tables of which each size can be tried."""
    one = kind_pairs(seed, many, letters="xy", most_plus=most_plus)
    two = kind_pairs(seed + 1, many, letters="x")
    triples = [(text, other, room) for (text, room), (other, _) in zip(one, two)]
    # Border books that differ a little tell more than those that have nothing in common.
    triples += [(text, changed(text), room) for text, room in one]
    return [row for row in triples if far(*row) ** len(letters_of(row[2])) <= 1500]


def changed(text):
    """A border book that differs in one piece or corner."""
    lines = text.split("\n")
    return "\n".join(lines[:1] + lines[2:]) if len(text) % 3 else "\n".join(lines + ["corner more out 0> 0> cost 2"])


class AllSizes(unittest.TestCase):

    def test_as_the_search_of_all_sizes_tells(self):
        partings, told = [], []
        for text, other, room in small_triples(131, 90):
            one, two, made = Borders(text), Borders(other), Room(room)
            if table_size("signs a", room, *common(text, other)) > 900:
                raises_too_many(self, parting, one, two, made)
                continue
            first, second = Survey(text, room, far(text, other, room)), Survey(other, room, far(text, other, room))
            sizes = parting(one, two, made)
            self.assertEqual(sizes, first.parting(second), (text, other, room))
            self.assertIs(alike(one, two, made), sizes is None)
            self.assertIs(never_dearer(one, two, made), first.never_dearer(second), (text, other, room))
            self.assertIs(never_dearer(two, one, made), second.never_dearer(first))
            partings.append(sizes)
            told.append((first.never_dearer(second), second.never_dearer(first)))
        self.assertGreater(len(set(partings)), 12)
        self.assertGreater(partings.count(None), 10)
        self.assertGreater(min(told.count(pair) for pair in itertools.product((True, False), repeat=2)), 8)

    def test_motifs_of_other_lengths(self):
        for first, second in itertools.product(range(1, 6), range(1, 6)):
            one, two = (Borders(f"signs {'abcde'[:many]}\ncorner c out 0> 0> cost 0") for many in (first, second))
            self.assertEqual(parting(one, two, Room("x out")), None if first == second else (min(first, second),))
            self.assertIs(never_dearer(one, two, Room("x out")), second % first == 0)
            self.assertIs(alike(one, two, Room("x out")), first == second)
            self.assertIs(alike(one, two, Room("x in, y out")), True)

    def test_they_part_late(self):
        one = Borders("signs abcd\npiece p 0> 0> long 5 cost 9\ncorner c out 0> 0> cost 0\ncorner c out 1> 0> cost 9")
        two = Borders("signs abcd\ncorner c out 0> 0> cost 0\ncorner c out 1> 0> cost 9")
        self.assertEqual([parting(one, two, Room(text)) for text in ("x out", "x-9 out", "x+9 out")],
                         [(6,), (15,), (1,)])
        self.assertIs(never_dearer(one, two, Room("x out")), True)
        self.assertIs(never_dearer(two, one, Room("x out")), False)

    def test_they_part_behind_the_greater_motif(self):
        def book(costs):
            rows = [f"corner c out {phase}> 0> cost {cost}" for phase, cost in enumerate(costs)]
            return Borders("\n".join([f"signs {'abcde'[:len(costs)]}"] + rows))

        room = Room("x out")
        self.assertEqual(parting(book((1, 2, 3, 4)), book((1, 2, 3, 4, 1)), room), (5,))
        self.assertEqual(parting(book((1, 1, 2)), book((1, 1, 2, 1, 1)), room), (5,))
        self.assertEqual(parting(book((1, 2)), book((1, 2, 1, 2)), room), None)
        self.assertEqual([never_dearer(book((5, 4, 3, 2)), book((5, 4, 3, 2, 5)), room),
                          never_dearer(book((2, 3, 4, 5)), book((2, 3, 4, 5, 2)), room),
                          never_dearer(book((2, 2, 2, 2)), book((2, 3, 4, 5, 2)), room)], [False, False, True])
        self.assertEqual([alike(book((1, 2, 3, 4)), book((1, 2, 3, 4, 1)), Room("x+9 out")),
                          alike(book((1, 1, 1, 1)), book((1, 1, 1, 1, 1)), room)], [False, True])

    def test_none_is_a_cost_of_its_own(self):
        closing, open_one = Borders("signs a\ncorner c out 0> 0> cost 0"), Borders("signs a")
        room = Room("x out")
        self.assertEqual([parting(closing, open_one, room), parting(open_one, closing, room)], [(0,), (0,)])
        self.assertEqual([alike(closing, open_one, room), alike(open_one, open_one, room)], [False, True])
        self.assertEqual([never_dearer(closing, open_one, room), never_dearer(open_one, closing, room),
                          never_dearer(open_one, open_one, room)], [True, False, True])
        self.assertEqual(parting(closing, open_one, Room("x-4 out, y-1 out")), (4, 1))
        self.assertIs(alike(closing, open_one, Room("x in")), True)

    def test_costs_that_are_less_or_greater(self):
        cheap, dear = (Borders(f"signs ab\ncorner c out 0> 0> cost {cost}") for cost in (2, 3))
        self.assertEqual([never_dearer(cheap, dear, Room.oblong()), never_dearer(dear, cheap, Room.oblong()),
                          never_dearer(dear, dear, Room.oblong()), parting(cheap, dear, Room.oblong())],
                         [True, False, True, (0, 0)])
        more = Borders("signs ab\ncorner c out 0> 0> cost 3\ncorner c out 1> 1> cost 0")
        room = Room("x out, x out")
        self.assertEqual([never_dearer(cheap, more, room), never_dearer(more, cheap, room),
                          never_dearer(dear, more, room)], [False, True, False])

    def test_pieces_and_corners_that_nothing_needs(self):
        room = Room.oblong()
        one = Borders("signs ab\npiece p 0> 0> long 2 cost 0\ncorner c out 0> 0> cost 0\ncorner c in 1> 1> cost 0")
        two = Borders("signs ba\ncorner d out 0> 0> cost 0\ncorner d out 0> 0> cost 4")
        self.assertEqual([parting(one, two, room), alike(one, two, room)], [None, True])

    def test_sizes_of_any_greatness(self):
        for text, other, room in small_triples(141, 40, most_plus=9):
            one, two, made = Borders(text), Borders(other), Room(room)
            if table_size("signs a", room, *common(text, other)) <= 900:
                same, less = alike(one, two, made), never_dearer(one, two, made)
                for sizes in ((TOP, TOP), (TOP - 1, 3), (50, TOP - 7), (10 ** 15, 10 ** 16 + 3)):
                    first, second = (least_cost(borders, made, sizes[:len(made.letters)]) for borders in (one, two))
                    self.assertTrue(first == second or not same)
                    self.assertTrue(not less or second is None or first is not None and first <= second)

    def test_turned_and_moved_states(self):
        for text, room in kind_pairs(143, 30, letters="xy", most_pieces=2):
            if table_size(text, room) <= 900:
                borders = Borders(text)
                self.assertIs(alike(borders, Borders(samples.mirrored(text)), Room(room)), True)
                self.assertIs(alike(Borders(samples.moved(text, 1)), borders, Room(room)), True)
                self.assertIsNone(parting(borders, borders, Room(room)))
                self.assertIs(never_dearer(borders, Borders(samples.moved(text, 2)), Room(room)), True)

    def test_rooms_begun_at_another_side(self):
        for text, other, room in small_triples(145, 25):
            if table_size("signs a", room, *common(text, other)) <= 900:
                for function in (alike, parting, never_dearer):
                    told = function(Borders(text), Borders(other), Room(room))
                    for by in range(1, len(Room(room))):
                        begun = Room(samples.begun_at(room, by))
                        self.assertEqual(function(Borders(text), Borders(other), begun), told)

    def test_by_name_and_kind(self):
        cheap, dear = (Borders(f"signs ab\ncorner c out 0> 0> cost {cost}") for cost in (2, 3))
        room = Room("x out")
        self.assertIs(alike(one=cheap, other=dear, room=room), False)
        self.assertEqual(parting(room=room, other=dear, one=cheap), (0,))
        self.assertIs(never_dearer(other=dear, one=cheap, room=room), True)
        self.assertIs(never_dearer(other=cheap, one=dear, room=room), False)


class TooManySizes(unittest.TestCase):

    def test_tables_of_both_with_900_sizes_and_more(self):
        filled = samples.fillers(5) + "\ncorner c out 0> 0> cost 1"
        four, five = "signs abcd\ncorner c out 0> 0> cost 1", "signs abcde\ncorner c out 0> 0> cost 1"
        for text, other, room, many in (
                (filled, four, "x-6 out, y-6 out", 900), (filled, four, "x-6 out, y-7 out", 930),
                (five, four, "x out, y out", 400), (five, four, "x-9 out, y-9 out", 841),
                (five, four, "x+9 out, y+9 out, z+9 out", 8000), (five, "signs a", "x-5 out, y-4 out, z-5 out", 900),
                ("signs a", five, "x-2 out, y-5 out, z-8 out", 910), (five, five, "x-5 out, y-4 out, z-5 out", 900),
                ("signs ab", four, "x-6 out, y-5 out, z-6 out", 900),
                ("signs ab", four, "x-6 out, y-6 out, z-6 out", 1000),
                (samples.LATE, "signs a", "x+9 out, y+9 out", 6084), (samples.LATE, "signs abcd", "x-9 out", 111)):
            self.assertEqual(table_size("signs a", room, *common(text, other)), many)
            for function in (alike, parting, never_dearer):
                for first, second in ((text, other), (other, text)):
                    if many > 900:
                        raises_too_many(self, function, Borders(first), Borders(second), Room(room))
                    else:
                        function(Borders(first), Borders(second), Room(room))

    def test_equal_border_books_are_no_exception(self):
        borders = Borders("signs a\ncorner c out 0> 0> cost 1")
        for function in (alike, parting, never_dearer):
            raises_too_many(self, function, borders, borders, Room("x-9 out, y-9 out, z-9 out"))

    def test_what_tables_of_900_sizes_tell(self):
        filled = Borders(samples.fillers(5) + "\ncorner c out 0> 0> cost 1")
        four = Borders("signs abcd\ncorner c out 0> 0> cost 1")
        room = Room("x-6 out, y-6 out")
        self.assertEqual(parting(filled, four, room), (6, 7))
        self.assertEqual([never_dearer(filled, four, room), never_dearer(four, filled, room)], [False, False])
        cheap = Borders(samples.fillers(5, 0) + "\ncorner c out 0> 0> cost 1")
        self.assertEqual([never_dearer(cheap, four, room), never_dearer(four, cheap, room)], [True, False])

    def test_they_come_last(self):
        borders = Borders("signs a")
        for function in (alike, parting, never_dearer):
            with self.assertRaises(NotARoom):
                function(borders, borders, "x-9 out, y-9 out, z-9 out")
