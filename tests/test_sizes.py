import itertools
import unittest

import samples
import search as searching
from cornerways.closing import least_cost
from cornerways.errors import InvalidNumber, NoAnswer, NotARoom, OtherLetters, TooMany
from cornerways.motifs import Borders
from cornerways.rooms import Room
from cornerways.sizes import always, count_both, count_closing, dearest, enough, failing
from samples import kind_pairs, some_pairs
from search import Survey, grown, letters_of, search, sides_of, table_size

TOP = 10 ** 30


def far(text, *rooms):
    """A number beyond the tables of a border book and these rooms, with some motifs more."""
    plus = min(side[1] for room in rooms for side in sides_of(room))
    return search(text).calendar() + max(0, -plus) + 2 * search(text).many


def small_pairs(seed, many, **limits):
    """Pairs of border books and rooms with small tables, for which each size can be tried."""
    two = kind_pairs(seed, 2 * many, letters="xy", **limits)
    three = kind_pairs(seed + 1, 4 * many, letters="xyz", most_signs=2, most_pieces=1, most_plus=2)
    three = [pair for pair in three if len(letters_of(pair[1])) == 3]
    pairs = two + three + some_pairs(seed + 2, many, letters="xy")
    return [(text, room) for text, room in pairs if far(text, room) ** len(letters_of(room)) <= 1500]


def raises_too_many(case, function, *arguments):
    with case.assertRaises(TooMany) as caught:
        function(*arguments)
    case.assertEqual(caught.exception.limit, 900)
    case.assertIsInstance(caught.exception, NoAnswer)
    case.assertIsInstance(caught.exception, ArithmeticError)


class Failing(unittest.TestCase):

    def test_as_the_search_of_all_sizes_tells(self):
        told = []
        for text, room in small_pairs(61, 40):
            sizes = failing(Borders(text), Room(room))
            self.assertEqual(sizes, Survey(text, room, far(text, room)).failing(), (text, room))
            self.assertIs(always(Borders(text), Room(room)), sizes is None)
            told.append(sizes)
        self.assertGreater(told.count(None), 5)
        self.assertGreater(len(set(told)), 15)

    def test_the_failing_sizes_are_close_to_those_without_room(self):
        told = set()
        for text, room in kind_pairs(64, 150, letters="xy", most_plus=9):
            searched, many = search(text), search(text).many
            numbers = [range(max(0, -min(plus for name, plus, turn in sides_of(room) if name == letter)) + many)
                       for letter in letters_of(room)]
            rows = [sizes for sizes in itertools.product(*numbers)
                    if searching.lengths(sides_of(room), sizes) is not None
                    and searched.least(sides_of(room), sizes) is None]
            sizes = min(rows, key=lambda row: (sum(row), row), default=None)
            self.assertEqual(failing(Borders(text), Room(room)), sizes)
            told.add(sizes)
        self.assertGreater(len(told), 20)

    def test_no_corners(self):
        self.assertEqual(failing(Borders("signs abc"), Room.oblong()), (0, 0))
        self.assertEqual(failing(Borders("signs abc"), Room("x-9 out, y+9 in, z-1 in, x-2 out")), (9, 0, 1))
        self.assertIs(always(Borders("signs abc"), Room.oblong()), False)

    def test_one_phase(self):
        borders = Borders("signs a\ncorner c out 0> 0> cost 0")
        self.assertEqual([failing(borders, Room(text)) for text in ("x out", "x out, y-9 out, z+9 out", "x in")],
                         [None, None, (0,)])
        self.assertIs(always(borders, Room("x-9 out")), True)

    def test_corners_that_keep_all_phases(self):
        for many in range(1, 6):
            borders = Borders(f"signs {'abcde'[:many]}" + samples.keeping(many))
            self.assertEqual(failing(borders, Room.oblong()), (0, 1) if many > 2 else None)
            self.assertEqual(failing(borders, Room("x out, y out")), (0, 1) if many > 1 else None)
            self.assertEqual(failing(borders, Room("x+1 out, y out")), (0, 0) if many > 1 else None)

    def test_corners_that_turn_the_motif_about(self):
        for many in range(1, 6):
            borders = Borders(f"signs {'abcde'[:many]}" + samples.turning(many))
            self.assertEqual(failing(borders, Room("x out, x out")), None)
            self.assertEqual(failing(borders, Room("x out, y out")), (0, 1) if many > 1 else None)
            self.assertEqual(failing(borders, Room("x out, x out, x out")), (0,))

    def test_one_phase_alone(self):
        for many in range(2, 6):
            borders = Borders(f"signs {'abcde'[:many]}\ncorner c out 0> 0> cost 0")
            self.assertEqual(failing(borders, Room.oblong()), (0, 1))
            self.assertEqual(failing(borders, Room("x-7 out")), (8,))

    def test_a_filler_at_each_phase(self):
        for many in range(1, 6):
            borders = Borders(samples.fillers(many) + "\ncorner c out 0> 0> cost 0")
            # As many fillers as the rest by p go into each side.
            self.assertIs(always(borders, Room.oblong()), True)

    def test_great_tables_are_no_hindrance(self):
        room = "x-9 out, y-9 out, z-9 out"
        self.assertEqual(table_size(samples.LATE, room), 96 ** 3)
        self.assertEqual(failing(Borders(samples.LATE), Room(room)), Survey(samples.LATE, room, 12).failing())
        late = Borders(samples.LATE.replace("2< 0< cost 4", "1> 1> cost 0"))
        self.assertIs(always(late, Room(room)), failing(late, Room(room)) is None)
        whole = Borders(samples.LATE.split("\ncorner")[0] + samples.keeping(5) + "".join(
            f"\ncorner turn out 0> {phase}> cost 0" for phase in range(1, 5)))
        self.assertEqual(failing(whole, Room(room)), Survey(whole.text, room, 13).failing())

    def test_sizes_for_which_there_is_no_room_do_not_fail(self):
        borders = Borders("signs ab\ncorner c out 0> 0> cost 0\ncorner c out 1> 1> cost 0")
        self.assertEqual([failing(borders, Room(f"x-{plus} out")) for plus in range(1, 10)],
                         [(plus + 1,) for plus in range(1, 10)])
        self.assertIs(always(borders, Room("x-1 out, x-3 out")), True)
        self.assertIs(always(borders, Room("x-1 out, x-2 out")), False)

    def test_by_name_and_kind(self):
        borders = Borders(samples.SQUARE)
        self.assertEqual(failing(borders=borders, room=Room.oblong()), (0, 1))
        self.assertIs(always(room=Room.oblong(), borders=borders), False)


class Dearest(unittest.TestCase):

    def test_as_the_search_of_all_sizes_tells(self):
        told = []
        for text, room in small_pairs(71, 40):
            if table_size(text, room) > 900:
                raises_too_many(self, dearest, Borders(text), Room(room))
                continue
            pair = dearest(Borders(text), Room(room))
            self.assertEqual(pair, Survey(text, room, far(text, room)).dearest(), (text, room))
            told.append(pair)
        self.assertGreater(len(set(told)), 20)
        self.assertIn(None, told)

    def test_it_closes_for_none(self):
        self.assertIsNone(dearest(Borders("signs abc"), Room.oblong()))
        self.assertIsNone(dearest(Borders("signs a\ncorner c in 0> 0> cost 0"), Room("x out")))
        self.assertIsNone(dearest(Borders("signs a\ncorner c out 0> 0< cost 0"), Room("x out")))

    def test_a_filler_at_each_phase(self):
        for many, cost in itertools.product(range(1, 6), (0, 1, 9)):
            borders = Borders(samples.fillers(many, cost) + "\ncorner c out 0> 0> cost 2")
            self.assertEqual(dearest(borders, Room("x out")), ((many - 1) * cost + 2, (many - 1 if cost else 0,)))
            self.assertEqual(dearest(borders, Room("x out, y out")),
                             (2 * (many - 1) * cost + 4, (many - 1, many - 1) if cost else (0, 0)))

    def test_the_least_sizes_by_their_sum_and_then_as_tuples(self):
        borders = Borders("signs ab\npiece a 0> 0> long 1 cost 3\ncorner c out 0> 0> cost 0")
        self.assertEqual(dearest(borders, Room("x out, y out")), (6, (1, 1)))
        self.assertEqual(dearest(borders, Room("y out, y out, x out, z-2 out")), (12, (1, 1, 3)))
        once = Borders("signs ab\npiece a 0> 0> long 1 cost 3\npiece b 0> 0< long 1 cost 9\ncorner c out 0> 0> cost 0\n"
                       "corner d in 0> 0> cost 0\ncorner d in 1> 0> cost 0")
        self.assertEqual(dearest(once, Room("x out, y in")), (3, (1, 0)))
        self.assertEqual(dearest(once, Room("x in, y out")), (3, (0, 1)))

    def test_costs_that_are_great_for_small_sizes_alone(self):
        late = Borders("signs a\npiece a 0> 0< long 1 cost 9\npiece b 0> 0< long 6 cost 0\ncorner c out 0< 0> cost 1")
        self.assertEqual([dearest(late, Room(text)) for text in ("x out", "x-9 out", "x+5 out", "x+6 out", "x+9 out")],
                         [(10, (1,)), (10, (10,)), (10, (0,)), (1, (0,)), (1, (0,))])

    def test_by_name(self):
        self.assertEqual(dearest(room=Room.oblong(), borders=Borders(samples.FREE)), (4, (0, 0)))

    def test_no_size_is_dearer(self):
        for text, room in kind_pairs(74, 60, letters="xy"):
            if table_size(text, room) <= 900 and dearest(Borders(text), Room(room)) is not None:
                cost, sizes = dearest(Borders(text), Room(room))
                self.assertEqual(least_cost(Borders(text), Room(room), sizes), cost)
                for other in [(TOP, TOP), (TOP - 1, 40), (41, TOP), (3, 5), (0, TOP - 1)]:
                    more = least_cost(Borders(text), Room(room), other[:len(sizes)])
                    self.assertTrue(more is None or more <= cost)


class Counts(unittest.TestCase):

    def test_as_the_search_of_all_sizes_tells(self):
        told = set()
        for text, room in small_pairs(81, 30):
            end = far(text, room)
            survey = Survey(text, room, end)
            if table_size(text, room) <= 900:
                for top in sorted({0, 1, 2, end // 2, end - 1, end}):
                    many = count_closing(Borders(text), Room(room), top)
                    self.assertEqual(many, len(survey.closing(top)), (text, room, top))
                    told.add(many)
        self.assertGreater(len(told), 50)

    def test_the_greatest_bounds(self):
        # Beyond the table the counts for bounds with the same rest by p are a polynomial of the bound.
        told = set()
        for text, room in small_pairs(84, 12):
            letters, many, start = len(letters_of(room)), search(text).many, far(text, room)
            if table_size(text, room) > 900 or (start + many * letters) ** letters > 4000:
                continue
            survey = Survey(text, room, start + many * (letters + 1))
            for top in (TOP, TOP - 1, TOP - 4, 10 ** 18 + 1, start + 7 * many):
                base = start + (top - start) % many
                counts = [len(survey.closing(base + k * many)) for k in range(letters + 1)
                          if base + k * many <= start + many * (letters + 1)]
                self.assertEqual(len(counts), letters + 1)
                many_sizes = count_closing(Borders(text), Room(room), top)
                self.assertEqual(many_sizes, grown(counts, (top - base) // many))
                told.add(many_sizes)
        self.assertGreater(len(told), 25)

    def test_corners_that_keep_all_phases(self):
        for many in range(1, 6):
            borders = Borders(f"signs {'abcde'[:many]}" + samples.keeping(many))
            for top in (0, 1, 7, TOP - 1, TOP):
                with_rest = [(top - rest) // many + 1 if rest <= top else 0 for rest in range(many)]
                self.assertEqual(count_closing(borders, Room("x out"), top), with_rest[0])
                self.assertEqual(count_closing(borders, Room("x out, y out"), top),
                                 sum(with_rest[rest] * with_rest[-rest % many] for rest in range(many)))

    def test_corners_that_turn_the_motif_about(self):
        for many in range(1, 6):
            borders = Borders(f"signs {'abcde'[:many]}" + samples.turning(many))
            for top in (0, 1, 8, TOP):
                with_rest = [(top - rest) // many + 1 if rest <= top else 0 for rest in range(many)]
                self.assertEqual(count_closing(borders, Room("x out, x out"), top), top + 1)
                self.assertEqual(count_closing(borders, Room("x out, y out"), top), sum(k * k for k in with_rest))
                self.assertEqual(count_closing(borders, Room("x out"), top), 0)

    def test_one_phase_alone(self):
        for many in range(1, 6):
            borders = Borders(f"signs {'abcde'[:many]}\ncorner c out 0> 0> cost 0")
            for top in (0, 3, 10, TOP):
                self.assertEqual(count_closing(borders, Room.oblong(), top), (top // many + 1) ** 2)
                self.assertEqual(count_closing(borders, Room("x out, y out, z out"), top), (top // many + 1) ** 3)

    def test_a_plus_beyond_the_calendar(self):
        borders = Borders("signs abc\ncorner c out 0> 0> cost 0")
        self.assertEqual([count_closing(borders, Room("x+9 out"), top) for top in (0, 1, 2, 3, TOP - 1, TOP)],
                         [1, 1, 1, 2, (TOP - 1) // 3 + 1, TOP // 3 + 1])
        self.assertEqual([count_closing(borders, Room("x+8 out"), top) for top in (0, 1, 2, 3, 4)], [0, 1, 1, 1, 2])
        self.assertEqual([count_closing(borders, Room("x-9 out"), top) for top in (0, 8, 9, 11, 12)], [0, 0, 1, 1, 2])

    def test_both_rooms(self):
        told = set()
        source = samples.seeded(90)
        for text, room in small_pairs(87, 30):
            # The inner room has the sides in another order, with other turns and numbers.
            parts = [f"{letter}{source.choice(('', '-1', '-2', '+3'))} {source.choice(('out', turn))}"
                     for letter, plus, turn in sides_of(room)]
            other = ", ".join(source.sample(parts, len(parts)))
            end = far(text, room, other)
            if end ** len(letters_of(room)) > 2000:
                continue
            first, second = Survey(text, room, end), Survey(text, other, end)
            if max(table_size(text, room), table_size(text, other)) > 900:
                raises_too_many(self, count_both, Borders(text), Room(room), Room(other), 1)
                continue
            for top in sorted({0, 1, end // 2, end - 1, end}):
                many = count_both(Borders(text), Room(room), Room(other), top)
                self.assertEqual(many, len(first.closing(top) & second.closing(top)), (text, room, other, top))
                told.add(many)
        self.assertGreater(len(told), 40)

    def test_both_rooms_with_the_greatest_bounds(self):
        borders = Borders("signs abc\ncorner c out 0> 0> cost 0")
        for top in (0, 2, 8, 9, 10, 11, 12, TOP - 1, TOP):
            both = [count_both(borders, Room(room), Room(inner), top) for room, inner in (
                ("x out", "x-9 out"), ("x-9 out", "x+3 out"), ("x out", "x-1 out"), ("x+1 out", "x-8 out"))]
            self.assertEqual(both, [max(0, (top - 9) // 3 + 1), max(0, (top - 9) // 3 + 1), 0,
                                    max(0, (top - 8) // 3 + 1)])
        self.assertEqual(count_both(borders, Room.oblong(), Room.oblong(-3), 8), 4)
        self.assertEqual(count_both(borders, Room.oblong(), Room.oblong(-3), TOP), ((TOP - 3) // 3 + 1) ** 2)

    def test_both_rooms_count_as_one_if_they_are_the_same(self):
        for text, room in kind_pairs(91, 60, letters="xyz", most_pieces=1):
            if table_size(text, room) <= 900:
                for top in (0, 5, TOP):
                    self.assertEqual(count_both(Borders(text), Room(room), Room(room), top),
                                     count_closing(Borders(text), Room(room), top))

    def test_both_rooms_in_either_order(self):
        source = samples.seeded(92)
        for text, room in kind_pairs(93, 60, letters="x", most_plus=9):
            other = samples.some_room(source, "x", 3, 9, ("out",))
            for top in (3, 10, TOP):
                self.assertEqual(count_both(Borders(text), Room(room), Room(other), top),
                                 count_both(Borders(text), Room(other), Room(room), top))

    def test_tables_that_are_great_together_alone(self):
        borders = Borders("signs a\npiece a 0> 0< long 4 cost 1\ncorner c out 0> 0> cost 0\ncorner d in 0< 0> cost 0")
        room, inner = "x-9 out, y-9 out, z+9 in", "x+9 in, y-9 out, z-9 out"
        self.assertEqual([table_size(borders.text, room), table_size(borders.text, inner)], [196, 196])
        for top in (0, 8, 9, 12, 20, TOP):
            self.assertEqual(count_both(borders, Room(room), Room(inner), top), max(0, top - 8) ** 3)

    def test_by_name_and_kind(self):
        borders = Borders(samples.SQUARE)
        self.assertEqual(count_closing(top=8, room=Room.oblong(), borders=borders), 9)
        self.assertEqual(count_both(top=8, inner=Room.oblong(-3), room=Room.oblong(), borders=borders), 4)
        self.assertIs(type(count_closing(borders, Room.oblong(), 0)), int)
        self.assertIs(type(count_both(borders, Room.oblong(), Room.oblong(-1), 8)), int)


class Enough(unittest.TestCase):

    def test_as_the_search_of_all_sizes_tells(self):
        told = []
        for text, room in small_pairs(101, 40):
            if table_size(text, room) <= 900 and far(text, room) ** len(letters_of(room)) <= 600:
                sets = enough(Borders(text), Room(room))
                self.assertEqual(sets, searching.enough(text, room, far(text, room)), (text, room))
                told.append(sets)
        self.assertGreater(len(set(told)), 12)
        self.assertGreater(max(len(sets) for sets in told), 1)
        self.assertGreater(max(len(part) for sets in told for part in sets), 1)

    def test_it_closes_for_none(self):
        self.assertEqual(enough(Borders("signs abc"), Room.oblong()), ((),))
        self.assertEqual(enough(Borders("signs abc\ncorner a in 0> 0> cost 0"), Room.oblong()), ((),))
        self.assertEqual(enough(Borders(samples.DOCUMENT), Room("x in, x in")), ((),))

    def test_each_corner_does_alone(self):
        borders = Borders("signs a\n" + "\n".join(f"corner {name} out 0> 0> cost 0" for name in ("d", "b", "ab", "a")))
        self.assertEqual(enough(borders, Room.oblong()), (("a",), ("ab",), ("b",), ("d",)))

    def test_sets_of_some_and_of_all_corners(self):
        borders = Borders("signs abcd\n" + "\n".join(
            f"corner {name} out {phase}> {phase}> cost 0" for phase, name in enumerate(("d", "b", "ab", "a"))))
        self.assertEqual(enough(borders, Room("x out")), (("a",), ("ab",), ("b",), ("d",)))
        # Two neighbours and two opposite ones are wanted: any three phases of four have both.
        self.assertEqual(enough(borders, Room("x out, y out")),
                         (("a", "ab", "b"), ("a", "ab", "d"), ("a", "b", "d"), ("ab", "b", "d")))
        borders = Borders("signs a\ncorner a out 0> 0< cost 0\ncorner b out 0< 0> cost 0\n"
                          "corner c in 0> 0< cost 0\ncorner d in 0< 0> cost 0")
        self.assertEqual(enough(borders, Room("x out, x out, y in, y in")), (("a", "b", "c", "d"),))
        self.assertEqual(enough(borders, Room("x out, y in")), (("a", "d"), ("b", "c")))

    def test_sets_of_several_lengths(self):
        borders = Borders("signs ab\ncorner c out 0> 0> cost 0\ncorner c out 1> 1> cost 0\ncorner b out 0> 0> cost 9\n"
                          "corner a out 1> 1> cost 9\ncorner d in 0> 0> cost 0")
        self.assertEqual(enough(borders, Room("x out, y out")), (("c",), ("a", "b")))
        self.assertEqual(enough(borders, Room("x out")), (("a",), ("b",), ("c",)))
        self.assertEqual(enough(borders, Room("x in")), (("d",),))
        self.assertEqual(enough(borders, Room("x out, x in")), (("c", "d"), ("a", "b", "d")))

    def test_costs_do_not_matter(self):
        borders = Borders("signs a\ncorner a out 0> 0> cost 9\ncorner b out 0> 0> cost 0")
        self.assertEqual(enough(borders, Room.oblong()), (("a",), ("b",)))

    def test_lines_of_one_name_go_together(self):
        borders = Borders("signs ab\ncorner a out 0> 1> cost 0\ncorner b out 1> 0> cost 0\ncorner a out 1> 0> cost 1")
        self.assertEqual(enough(borders, Room("x out, x out")), (("a",),))

    def test_great_sizes_that_small_ones_do_not_tell(self):
        borders = Borders("signs a\npiece p 0> 0< long 6 cost 1\ncorner a out 0> 0> cost 0\ncorner b out 0< 0> cost 0\n"
                          "corner c in 0< 0> cost 0")
        self.assertEqual(enough(borders, Room("x in")), (("c",),))
        self.assertEqual(enough(borders, Room("x out")), (("a",),))

    def test_by_name(self):
        self.assertEqual(enough(room=Room.oblong(), borders=Borders(samples.FREE)), (("turn",),))


class TooManySizes(unittest.TestCase):

    def calls(self, text, room):
        borders, made = Borders(text), Room(room)
        return [(dearest, borders, made), (count_closing, borders, made, 5), (count_closing, borders, made, TOP),
                (enough, borders, made), (count_both, borders, made, made, 5)]

    def test_tables_of_900_sizes_and_of_more(self):
        plain = "signs abcde\ncorner c out 0> 0> cost 1"
        filled = samples.fillers(5) + "\ncorner c out 0> 0> cost 1"
        for text, room, many in (
                (plain, "x-5 out, y-4 out, z-5 out", 900), (plain, "x-2 out, y-5 out, z-8 out", 910),
                (plain, "x-9 out, y-3 out, z-3 out", 896), (filled, "x-9 out, y-1 out, z+4 out", 900),
                (filled, "x-9 out, y-1 out, z+3 out", 1080), (filled, "x-9 out, y-1 out, z+9 out", 900),
                (filled, "x-9 out, z+5 out, y-1 out, x+9 in", 900), (samples.LATE, "x-9 out", 96),
                (samples.LATE, "x+9 out, y+9 out", 6084), ("signs a", "x-9 out, y-9 out, z-8 out", 900),
                ("signs a", "x-9 out, y-9 out, z-9 out", 1000), ("signs a", "x-9 out, x out, y-9 in, z-8 out", 900)):
            self.assertEqual(table_size(text, room), many)
            for function, *arguments in self.calls(text, room):
                if many > 900:
                    raises_too_many(self, function, *arguments)
                else:
                    function(*arguments)

    def test_what_tables_of_900_sizes_tell(self):
        filled = Borders(samples.fillers(5) + "\ncorner c out 0> 0> cost 1")
        room = Room("x-9 out, y-1 out, z+4 out")
        self.assertEqual(dearest(filled, room), (15, (13, 5, 0)))
        self.assertEqual(count_closing(filled, room, TOP), (TOP - 8) * TOP * (TOP + 1))
        self.assertEqual(count_both(filled, room, Room("z out, y out, x out"), 20), 12 * 20 * 21)
        self.assertEqual(enough(filled, room), (("c",),))

    def test_always_and_failing_know_no_greatest_table(self):
        for text in (samples.LATE, "signs a\ncorner c out 0> 0> cost 0"):
            for room in ("x-9 out, y-9 out, z-9 out", "x out, y out, z out"):
                self.assertIs(always(Borders(text), Room(room)), failing(Borders(text), Room(room)) is None)

    def test_either_room_of_both(self):
        borders = Borders("signs abcde\ncorner c out 0> 0> cost 1")
        small, great = Room("x-5 out, y-4 out, z-5 out"), Room("x-2 out, y-5 out, z-8 out")
        raises_too_many(self, count_both, borders, small, great, 5)
        raises_too_many(self, count_both, borders, great, small, 5)
        self.assertEqual([count_both(borders, small, small, top) for top in (4, 5, 9, 10)], [0, 1, 2, 8])

    def test_they_come_last(self):
        borders, great = Borders("signs a"), Room("x-9 out, y-9 out, z-9 out")
        with self.assertRaises(InvalidNumber):
            count_closing(borders, great, -1)
        with self.assertRaises(InvalidNumber):
            count_both(borders, great, great, TOP + 1)
        with self.assertRaises(OtherLetters):
            count_both(borders, great, Room("x out"), 5)
        with self.assertRaises(NotARoom):
            count_both(borders, great, "x out", 5)


class OtherLettersInTheInnerRoom(unittest.TestCase):

    def test_not_just_the_same_letters(self):
        borders = Borders(samples.FREE)
        for room, inner in (("x out", "y out"), ("x out", "x out, y out"), ("x out, y out", "x out"),
                            ("x out, y out", "x out, z out"), ("x out, y out, z out", "x out, y out")):
            with self.assertRaises(OtherLetters) as caught:
                count_both(borders, Room(room), Room(inner), 3)
            self.assertIsInstance(caught.exception, NoAnswer)
            with self.assertRaises(OtherLetters):
                count_both(borders, Room(room), Room(inner), "top")

    def test_the_same_letters_in_another_order(self):
        borders = Borders("signs a\ncorner c out 0> 0> cost 0")
        self.assertEqual(count_both(borders, Room("x out, y-2 out"), Room("y out, x-1 out, y out"), 4), 12)


class Symmetries(unittest.TestCase):

    def test_turned_and_moved_states_and_rooms_begun_at_another_side(self):
        for text, room in kind_pairs(111, 40, letters="xy", most_pieces=2):
            if table_size(text, room) > 900:
                continue
            many, sides = len(Borders(text).signs), len(Room(room))
            others = [(samples.mirrored(text), room), (samples.backwards(text), samples.backwards_room(room))]
            others += [(samples.moved(text, by), room) for by in range(1, many)]
            others += [(text, samples.begun_at(room, by)) for by in range(1, sides)]
            for function, *more in ((failing,), (always,), (dearest,), (count_closing, 7), (count_closing, TOP),
                                    (enough,)):
                told = function(Borders(text), Room(room), *more)
                for other, other_room in others:
                    self.assertEqual(function(Borders(other), Room(other_room), *more), told)
