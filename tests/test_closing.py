import itertools
import unittest

import samples
from cornerways.closing import least_border, least_cost, ways
from cornerways.errors import BadValue, InvalidSizes, NoAnswer, TooMany
from cornerways.motifs import Borders
from cornerways.rooms import Room
from cornerways.sides import least_filling, walk
from samples import kind_pairs, some_pairs
from search import all_sizes, lengths, letters_of, search, sides_of, single

TOP = 10 ** 30

# All borders of some sizes are put together only if there are no more.
MOST_TRIED = 2000


def told_cost(borders, border):
    """The cost of a border, as `walk` tells that of its fillings."""
    state, total = border[0], 0
    for filling, at in border[1]:
        corner = borders.corners[at]
        state, cost = corner[3], walk(borders, state, filling)[2] + corner[4]
        total += cost
    return total


class SearchItself(unittest.TestCase):

    def test_costs_and_ways_are_those_of_all_borders(self):
        closing = 0
        for text, room in kind_pairs(31, 60, most_sides=3, most_plus=2, most_pieces=2):
            searched, sides = search(text), sides_of(room)
            for sizes in all_sizes(len(letters_of(room)), 3):
                if searched.ways(sides, sizes) > MOST_TRIED:
                    continue
                rows = searched.borders(sides, sizes)
                self.assertEqual(len(set(rows)), len(rows))
                self.assertEqual(searched.ways(sides, sizes), len(rows))
                self.assertEqual(searched.least(sides, sizes), min([row[0] for row in rows], default=None))
                closing += len(rows) > 1
        self.assertGreater(closing, 100)


class LeastCosts(unittest.TestCase):

    def agrees(self, text, room, top):
        searched, borders, made = search(text), Borders(text), Room(room)
        told = []
        for sizes in all_sizes(len(letters_of(room)), top):
            cost = least_cost(borders, made, sizes)
            self.assertEqual(cost, searched.least(sides_of(room), sizes), (text, room, sizes))
            told.append(cost)
        return sum(cost is not None for cost in told)

    def test_as_the_search_tells(self):
        closing = sum(self.agrees(text, room, 4) for text, room in kind_pairs(32, 80) + some_pairs(33, 60))
        self.assertGreater(closing, 900)

    def test_longer_sides(self):
        self.assertGreater(sum(self.agrees(text, room, 26) for text, room in kind_pairs(34, 25, letters="x")), 300)

    def test_rooms_of_many_sides(self):
        for text, room in kind_pairs(35, 60, letters="xy", most_sides=12):
            self.agrees(text, room, 2)
        room = ", ".join(["x out", "y+1 in", "z out", "x-1 out"] * 3)
        for text, _ in kind_pairs(36, 20):
            self.agrees(text, room, 2)

    def test_the_greatest_numbers_with_each_rest(self):
        closing = 0
        for text, room in kind_pairs(37, 60, most_plus=9) + [(samples.LATE, "x+9 out, y-9 out")]:
            searched, borders, many = search(text), Borders(text), search(text).many
            for less in itertools.product(range(2), repeat=len(letters_of(room))):
                sizes = tuple(TOP - number for number in less)
                small = tuple(120 + (TOP - number - 120) % many for number in less)
                cost = searched.least(sides_of(room), small)
                self.assertEqual(least_cost(borders, Room(room), sizes), cost)
                self.assertEqual(least_border(borders, Room(room), sizes) is None, cost is None)
                closing += cost is not None
        self.assertGreater(closing, 60)

    def test_no_room(self):
        borders = Borders("signs a\ncorner c out 0> 0> cost 0")
        self.assertEqual([least_cost(borders, Room("x-3 out"), (size,)) for size in range(5)],
                         [None, None, None, 0, 0])
        self.assertEqual([least_border(borders, Room("x-3 out"), (size,)) for size in range(4)],
                         [None, None, None, ("0>", (((), 0),))])
        self.assertIsNone(least_cost(borders, Room("x out, y-1 out"), (TOP, 0)))

    def test_no_corners(self):
        for text in ("signs a", "signs abc", "signs ab\npiece a 0> 0< long 1 cost 0"):
            for sizes in ((0, 0), (3, 3), (TOP, TOP)):
                self.assertIsNone(least_cost(Borders(text), Room.oblong(), sizes))
                self.assertIsNone(least_border(Borders(text), Room.oblong(), sizes))

    def test_corners_of_the_other_turn_do_not_help(self):
        borders = Borders("signs a\ncorner c in 0> 0> cost 2")
        self.assertEqual([least_cost(borders, Room(text), (3,)) for text in ("x in", "x out", "x in, x out")],
                         [2, None, None])

    def test_corners_that_keep_all_phases(self):
        for many in range(1, 5):
            borders = Borders(f"signs {'abcd'[:many]}" + samples.keeping(many, 3))
            for sizes in itertools.product(range(5), range(5)):
                closes = 2 * sum(sizes) % many == 0
                self.assertEqual(least_cost(borders, Room.oblong(), sizes), 12 if closes else None)

    def test_one_phase_alone(self):
        for many in range(1, 5):
            borders = Borders(f"signs {'abcd'[:many]}\ncorner c out 0> 0> cost 1")
            for sizes in itertools.product(range(6), range(6)):
                closes = sizes[0] % many == 0 and sizes[1] % many == 0
                self.assertEqual(least_cost(borders, Room.oblong(), sizes), 4 if closes else None)

    def test_corners_that_turn_the_motif_about(self):
        for many in range(1, 5):
            borders = Borders(f"signs {'abcd'[:many]}" + samples.turning(many))
            for sizes in itertools.product(range(6), range(6)):
                closes = (sizes[0] - sizes[1]) % many == 0
                self.assertEqual(least_cost(borders, Room("x out, y out"), sizes), 0 if closes else None)
                self.assertIsNone(least_cost(borders, Room("x out, y out, x out"), sizes))

    def test_a_filler_at_each_phase(self):
        for many in range(1, 5):
            borders = Borders(samples.fillers(many, 2) + "\ncorner c out 0> 0> cost 0")
            for size in range(2 * many):
                told = 2 * (size % many)
                self.assertEqual(least_cost(borders, Room("x out"), (size,)), told if size % many <= size else None)

    def test_dearest_borders(self):
        many = "\n".join(["signs a", "piece a 0< 0> long 6 cost 9", "corner c out 0> 0< cost 9"])
        room = Room(", ".join(["x out"] * 12))
        self.assertEqual([least_cost(Borders(many), room, (size,)) for size in (5, 6, TOP)], [None, 216, 216])

    def test_one_more_line_makes_nothing_dearer(self):
        for text, room in kind_pairs(38, 40, most_pieces=2, letters="xy"):
            borders, made = Borders(text), Room(room)
            for line in ("piece more 0> 0< long 1 cost 2", "corner a in 0< 0> cost 2"):
                more = borders.add(line)
                for sizes in all_sizes(len(made.letters), 4):
                    cost, less = least_cost(borders, made, sizes), least_cost(more, made, sizes)
                    self.assertTrue(cost is None or less is not None and less <= cost)

    def test_by_name_and_kind(self):
        borders, room = Borders(samples.FREE), Room.oblong()
        self.assertEqual(least_cost(borders=borders, room=room, sizes=(1, 2)), 4)
        self.assertEqual(least_border(sizes=(1, 2), room=room, borders=borders), least_border(borders, room, (1, 2)))
        self.assertEqual(ways(room=Room("x out"), borders=borders, sizes=(4,)), 2)
        self.assertEqual([type(least_cost(borders, room, (1, 2))), type(ways(borders, room, (1, 1)))], [int, int])


class LeastBorders(unittest.TestCase):

    def goes(self, borders, room, sizes):
        """Whether there is a border; if so, it is one of these sizes with the least cost."""
        cost, border = least_cost(borders, room, sizes), least_border(borders, room, sizes)
        if cost is None:
            self.assertIsNone(border)
            return False
        self.assertEqual([type(border), type(border[1]), len(border[1])], [tuple, tuple, len(room)])
        state = border[0]
        legs = lengths(sides_of(room.text), sizes)
        for side, (length, turn) in zip(border[1], legs):
            self.assertIs(type(side), tuple)
            filling, at = side
            corner = borders.corners[at]
            self.assertEqual(walk(borders, state, filling)[:2], (corner[2], length))
            self.assertEqual(corner[1], turn)
            self.assertEqual(filling, least_filling(borders, length, state, corner[2]) if length <= TOP else filling)
            self.assertLessEqual(len(filling), 200)
            self.assertFalse([pair for pair in zip(filling, filling[1:]) if {type(step) for step in pair} == {int}])
            state = corner[3]
        self.assertEqual(state, border[0])
        self.assertEqual(told_cost(borders, border), cost)
        return True

    def test_they_go_and_have_the_least_cost(self):
        going = 0
        for text, room in kind_pairs(39, 100) + some_pairs(40, 60) + kind_pairs(41, 25, most_sides=12, letters="xy"):
            for sizes in all_sizes(len(letters_of(room)), 3):
                going += self.goes(Borders(text), Room(room), sizes)
        self.assertGreater(going, 700)

    def test_they_are_among_all_borders(self):
        going = 0
        for text, room in kind_pairs(42, 50, most_sides=3, most_plus=2, most_pieces=2):
            for sizes in all_sizes(len(letters_of(room)), 3):
                border = least_border(Borders(text), Room(room), sizes)
                if border is not None and search(text).ways(sides_of(room), sizes) <= MOST_TRIED:
                    row = (border[0], tuple((single(filling), at) for filling, at in border[1]))
                    self.assertIn((least_cost(Borders(text), Room(room), sizes), row),
                                  search(text).borders(sides_of(room), sizes))
                    going += 1
        self.assertGreater(going, 100)

    def test_the_greatest_numbers(self):
        going = 0
        for text, room in kind_pairs(43, 60, most_plus=9) + [(samples.LATE, "x+9 out, y-9 out, x+9 out")]:
            for less in itertools.product(range(2), repeat=len(letters_of(room))):
                going += self.goes(Borders(text), Room(room), tuple(TOP - number for number in less))
        self.assertGreater(going, 60)

    def test_sides_longer_than_the_greatest_size(self):
        borders = Borders("signs abc\npiece a 0> 1> long 1 cost 1\ncorner c out 0> 0> cost 0\n"
                          "corner c out 1> 0> cost 3")
        for plus in range(10):
            self.goes(borders, Room(f"x+{plus} out" if plus else "x out"), (TOP,))

    def test_equal_calls_tell_equal_things(self):
        for text, room in kind_pairs(44, 30):
            for sizes in all_sizes(len(letters_of(room)), 2):
                self.assertEqual(least_border(Borders(text), Room(room), sizes),
                                 least_border(Borders(text), Room(room), sizes))


class Ways(unittest.TestCase):

    def agrees(self, text, room, numbers):
        for sizes in itertools.product(numbers, repeat=len(letters_of(room))):
            self.assertEqual(ways(Borders(text), Room(room), sizes), search(text).ways(sides_of(room), sizes))

    def test_as_the_search_tells(self):
        for text, room in kind_pairs(45, 60) + some_pairs(46, 40):
            self.agrees(text, room, range(4))

    def test_longer_sides(self):
        for text, room in kind_pairs(47, 30, most_plus=9) + some_pairs(48, 20, letters="xy", most_pieces=8):
            self.agrees(text, room, (12, 37, 51))
        self.agrees(samples.LATE, "x out, y out, x-1 out", (51, 60))

    def test_one_phase_and_one_piece(self):
        borders = Borders("signs a\npiece a 0> 0> long 2 cost 0\ncorner c out 0> 0> cost 0")
        told = [1, 1]
        while len(told) <= 60:
            told.append(told[-1] + told[-2])
        self.assertEqual([ways(borders, Room("x out"), (size,)) for size in range(61)], told)
        self.assertEqual(ways(borders, Room("x out, x out"), (10,)), told[10] ** 2)

    def test_each_corner_counts_apart(self):
        borders = Borders("signs a\ncorner c out 0> 0> cost 0\ncorner c out 0> 0> cost 1\ncorner d out 0> 0> cost 0\n"
                          "corner d in 0> 0> cost 0")
        self.assertEqual([ways(borders, Room(text), (5,)) for text in ("x out", "x in", "x out, x out", "x in, x out")],
                         [3, 1, 9, 3])

    def test_each_begin_counts_apart(self):
        for many in range(1, 6):
            borders = Borders(f"signs {'abcde'[:many]}" + samples.keeping(many))
            self.assertEqual([ways(borders, Room("x out"), (size,)) for size in range(11)],
                             [many if size % many == 0 else 0 for size in range(11)])

    def test_each_piece_counts_apart(self):
        borders = Borders("signs a\npiece a 0> 0> long 1 cost 0\npiece b 0> 0> long 1 cost 0\n"
                          "corner c out 0> 0> cost 0")
        self.assertEqual([ways(borders, Room("x out"), (size,)) for size in (0, 1, 2, 60)], [1, 3, 9, 3 ** 60])

    def test_the_greatest_number_of_ways(self):
        lines = [f"piece {name} 0> 0> long 1 cost 0" for name in "abcdefgh"]
        borders = Borders("\n".join(["signs a"] + lines + [f"corner c out 0> 0> cost {cost}" for cost in range(10)]))
        room = Room(", ".join(["x out"] * 12))
        self.assertEqual(ways(borders, room, (60,)), 9 ** 720 * 10 ** 12)

    def test_none(self):
        borders = Borders("signs ab\ncorner c out 0> 0> cost 0")
        self.assertEqual([ways(borders, Room("x out"), (size,)) for size in range(4)], [1, 0, 1, 0])
        self.assertEqual(ways(Borders("signs a"), Room("x out"), (60,)), 0)

    def test_no_room(self):
        borders = Borders("signs a\ncorner c out 0> 0> cost 0")
        self.assertEqual([ways(borders, Room("x-2 out"), (size,)) for size in range(4)], [0, 0, 1, 1])
        self.assertEqual(ways(borders, Room("x out, y-1 out"), (TOP, 0)), 0)
        self.assertEqual(ways(borders, Room("x out, y-1 out"), (60, 0)), 0)

    def test_sides_longer_than_sixty(self):
        borders = Borders("signs a\ncorner c out 0> 0> cost 0")
        self.assertEqual([ways(borders, Room("x+9 out"), (51,)), ways(borders, Room("x-9 out"), (69,))], [1, 1])
        self.assertEqual(ways(borders, Room("x out, y-9 out"), (60, 69)), 1)
        self.too_many(borders, "x out", (61,))
        self.too_many(borders, "x out", (TOP,))
        self.too_many(borders, "x+9 out", (52,))
        self.too_many(borders, "x-9 out", (70,))
        self.too_many(borders, "x out, y-9 out", (60, 70))
        self.too_many(borders, "x out, y-9 out", (61, 9))
        self.too_many(Borders("signs a"), "x out", (61,))
        self.too_many(Borders("signs ab"), "x in, x-1 in", (61,))

    def too_many(self, borders, room, sizes):
        with self.assertRaises(TooMany) as caught:
            ways(borders, Room(room), sizes)
        self.assertEqual(caught.exception.limit, 60)
        self.assertIsInstance(caught.exception, NoAnswer)

    def test_wrong_sizes_come_ahead_of_long_sides(self):
        with self.assertRaises(InvalidSizes) as caught:
            ways(Borders("signs a"), Room.oblong(), (61, -1))
        self.assertEqual(caught.exception.index, 1)


class Sizes(unittest.TestCase):

    def wrong(self, room, sizes, index):
        for function in (least_cost, least_border, ways):
            with self.assertRaises(InvalidSizes) as caught:
                function(Borders(samples.FREE), Room(room), sizes)
            self.assertEqual(caught.exception.index, index)
            self.assertIsInstance(caught.exception, BadValue)

    def test_the_first_size_that_is_not_right(self):
        self.wrong(samples.OBLONG, (1, TOP + 1), 1)
        self.wrong(samples.OBLONG, (-1, TOP + 1), 0)
        self.wrong(samples.OBLONG, (1, 2, 3), 2)
        self.wrong(samples.OBLONG, (1,), None)
        self.wrong(samples.OBLONG, (), None)
        self.wrong(samples.OBLONG, [1, 2], None)
        self.wrong(samples.OBLONG, (True, 1), 0)
        self.wrong("x out", (False,), 0)
        self.wrong("x-9 out", (0, 0), 1)
        self.wrong("x-9 out", (-1,), 0)


class Symmetries(unittest.TestCase):

    def test_turned_and_moved_states_and_rooms_begun_at_another_side(self):
        closing = 0
        for text, room in kind_pairs(49, 70) + some_pairs(50, 20):
            many, sides = len(Borders(text).signs), len(Room(room))
            others = [(samples.mirrored(text), room), (samples.backwards(text), samples.backwards_room(room))]
            others += [(samples.moved(text, by), room) for by in range(1, many)]
            others += [(text, samples.begun_at(room, by)) for by in range(1, sides)]
            for sizes in [(2, 3, 5), (4, 4, 1), (3, 0, 7), (9, 8, 6), (TOP, TOP - 1, TOP - 2)]:
                sizes = sizes[:len(letters_of(room))]
                cost = least_cost(Borders(text), Room(room), sizes)
                closing += cost is not None
                for other, other_room in others:
                    self.assertEqual(least_cost(Borders(other), Room(other_room), sizes), cost)
                if max(sizes) < 20:
                    told = ways(Borders(text), Room(room), sizes)
                    for other, other_room in others:
                        self.assertEqual(ways(Borders(other), Room(other_room), sizes), told)
        self.assertGreater(closing, 100)
