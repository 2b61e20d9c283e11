import itertools
import unittest

import samples
from cornerways.errors import InvalidFilling, InvalidText
from cornerways.motifs import Borders
from cornerways.sides import beginnings, calendar, least_filling, shown, side_cost, walk
from samples import some_books
from search import Search, search, single

TOP = 10 ** 30


class SearchItself(unittest.TestCase):

    def test_costs_and_counts_are_those_of_all_fillings(self):
        for text in some_books(1, 25, most_pieces=3):
            searched = search(text)
            for length, begin in itertools.product(range(7), searched.states):
                rows = searched.fillings(length, begin)
                self.assertEqual(len(set(rows)), len(rows))
                ends = {end for row, end, cost in rows}
                self.assertEqual(searched.side_costs(length, begin), {
                    end: min(cost for row, to, cost in rows if to == end) for end in ends})
                self.assertEqual(searched.side_counts(length, begin), {
                    end: sum(to == end for row, to, cost in rows) for end in ends})


class Shown(unittest.TestCase):

    def test_the_motif_runs_on(self):
        borders = Borders("signs abcde")
        self.assertEqual([shown(borders, "0>", many) for many in range(7)],
                         ["", "a", "ab", "abc", "abcd", "abcde", "abcdea"])
        self.assertEqual([shown(borders, f"{phase}>", 6) for phase in range(5)],
                         ["abcdea", "bcdeab", "cdeabc", "deabcd", "eabcde"])

    def test_the_motif_runs_back(self):
        borders = Borders("signs abcde")
        self.assertEqual([shown(borders, "0<", many) for many in range(7)],
                         ["", "e", "ed", "edc", "edcb", "edcba", "edcbae"])
        self.assertEqual([shown(borders, f"{phase}<", 6) for phase in range(5)],
                         ["edcbae", "aedcba", "baedcb", "cbaedc", "dcbaed"])

    def test_one_phase_alone(self):
        self.assertEqual([shown(Borders("signs q"), state, 3) for state in ("0>", "0<")], ["qqq", "qqq"])
        self.assertEqual(shown(Borders("signs q"), "0<", 1000), "q" * 1000)

    def test_signs_that_are_alike(self):
        borders = Borders("signs aab")
        self.assertEqual([shown(borders, state, 4) for state in borders.states],
                         ["baab", "aaba", "abaa", "abaa", "aaba", "baab"])

    def test_each_number_of_steps_up_to_a_thousand(self):
        for signs in ("a", "ab", "abc", "aabb", "abcde"):
            borders, searched = Borders("signs " + signs), Search("signs " + signs)
            for state in borders.states:
                whole = searched.shown(state, 1000)
                for many in list(range(30)) + [499, 500, 998, 999, 1000]:
                    self.assertEqual(shown(borders, state, many), whole[:many])

    def test_pieces_and_corners_show_nothing(self):
        self.assertEqual(shown(Borders(samples.DOCUMENT), "0>", 5), "abcab")

    def test_kinds(self):
        self.assertIs(type(shown(Borders("signs a"), "0>", 0)), str)
        self.assertEqual(shown(borders=Borders("signs ab"), begin="1<", many=3), "aba")
        self.assertEqual(shown(many=3, begin="1<", borders=Borders("signs ab")), "aba")


class Beginnings(unittest.TestCase):

    def test_just_the_states_that_show_the_text(self):
        for signs in ("a", "z", "ab", "aa", "abc", "aab", "aba", "abca", "aabb", "abab", "abcde", "aabaa", "abcba"):
            borders, searched = Borders("signs " + signs), Search("signs " + signs)
            for many in range(6):
                for letters in itertools.product("abc", repeat=many):
                    text = "".join(letters)
                    self.assertEqual(beginnings(borders, text), tuple(
                        state for state in searched.states if searched.shown(state, many) == text))

    def test_each_shown_text_has_its_state_among_its_beginnings(self):
        for signs in ("abcde", "aabab", "aaaa", "abc"):
            borders = Borders("signs " + signs)
            for state, many in itertools.product(borders.states, (0, 1, 2, 5, 17, 1000)):
                told = beginnings(borders, shown(borders, state, many))
                self.assertIn(state, told)
                self.assertEqual(list(told), sorted(told))

    def test_the_empty_text_has_all_states(self):
        for signs in ("a", "abc", "aabbc"):
            self.assertEqual(beginnings(Borders("signs " + signs), ""), Borders("signs " + signs).states)

    def test_no_states(self):
        for text in ("z", "aa", "abd", "abb", "abcb"):
            self.assertEqual(beginnings(Borders("signs abc"), text), ())

    def test_both_directions(self):
        self.assertEqual(beginnings(Borders("signs ab"), "ab"), ("0>", "1<"))
        self.assertEqual(beginnings(Borders("signs aba"), "aab"), ("1<", "2>"))

    def test_the_longest_text(self):
        borders = Borders("signs ab")
        self.assertEqual(beginnings(borders, "ab" * 500), ("0>", "1<"))
        for text in ("ab" * 500 + "a", "z" * 1001, "ab" * 2000):
            with self.assertRaises(InvalidText) as caught:
                beginnings(borders, text)
            self.assertIs(caught.exception.given, text)

    def test_texts_with_other_signs(self):
        for text in ("A", "a b", " ", "a\n", "\n", "0>", "ab1", "a" * 999 + "~", "a" * 1000 + " "):
            with self.assertRaises(InvalidText) as caught:
                beginnings(Borders("signs ab"), text)
            self.assertIs(caught.exception.given, text)

    def test_kinds(self):
        self.assertEqual(beginnings(borders=Borders("signs ab"), text="b"), ("0<", "1>"))
        self.assertIs(type(beginnings(Borders("signs ab"), "zz")), tuple)


class Walk(unittest.TestCase):

    def test_plain_steps(self):
        borders = Borders("signs abc")
        self.assertEqual([walk(borders, state, (1,)) for state in borders.states],
                         [(end, 1, 0) for end in ("2<", "1>", "0<", "2>", "1<", "0>")])
        self.assertEqual([walk(borders, "1<", (many,)) for many in (1, 2, 3, 4)],
                         [("0<", 1, 0), ("2<", 2, 0), ("1<", 3, 0), ("0<", 4, 0)])

    def test_no_steps(self):
        for state in ("0<", "0>", "2<", "2>"):
            self.assertEqual(walk(Borders(samples.DOCUMENT), state, ()), (state, 0, 0))

    def test_pieces(self):
        borders = Borders("signs abc\npiece on 0> 2> long 6 cost 9\npiece back 2> 1< long 1 cost 0")
        self.assertEqual(walk(borders, "0>", ("on",)), ("2>", 6, 9))
        self.assertEqual(walk(borders, "0>", ("on", "back")), ("1<", 7, 9))
        self.assertEqual(walk(borders, "0>", ("on", "back", 4, 2)), ("1<", 13, 9))
        self.assertEqual(walk(borders, "0>", ("on", 1, "on", 3, "back")), ("1<", 17, 18))

    def test_fillings_that_do_not_go(self):
        borders = Borders("signs abc\npiece on 0> 2> long 6 cost 9\npiece back 2> 1< long 1 cost 0")
        for begin, filling in (("1>", ("on",)), ("0<", ("on",)), ("0>", ("back",)), ("0>", ("on", "on")),
                               ("0>", (1, "on")), ("2<", ("back",)), ("0>", (2, "back", "back")), ("0>", (3, "back"))):
            self.assertIsNone(walk(borders, begin, filling))

    def test_all_fillings_go_and_no_others(self):
        for text in some_books(2, 30, most_pieces=4):
            borders, searched = Borders(text), search(text)
            names = [1] + [piece[0] for piece in searched.pieces]
            for begin in searched.states:
                told = {row: (end, length, cost) for length in range(6) for row, end, cost in
                        searched.fillings(length, begin)}
                for many in range(3):
                    for filling in itertools.product(names, repeat=many):
                        triple = walk(borders, begin, filling)
                        if triple is None or triple[1] < 6:
                            self.assertEqual(triple, told.get(filling))

    def test_a_filling_parted_in_two_does_what_both_parts_do(self):
        source = samples.seeded(3)
        for text in some_books(4, 60):
            borders = Borders(text)
            steps = [1, 2, 3, 10 ** 31] + [piece[0] for piece in borders.pieces]
            for begin in borders.states:
                filling = tuple(source.choice(steps) for _ in range(source.randint(0, 6)))
                for at in range(len(filling) + 1):
                    first = walk(borders, begin, filling[:at])
                    then = None if first is None else walk(borders, first[0], filling[at:])
                    both = None if then is None else (then[0], first[1] + then[1], first[2] + then[2])
                    self.assertEqual(walk(borders, begin, filling), both)

    def test_plain_steps_put_together_do_the_same(self):
        borders = Borders("signs abcde")
        for state, first, second in itertools.product(borders.states, range(1, 8), range(1, 8)):
            self.assertEqual(walk(borders, state, (first, second)), walk(borders, state, (first + second,)))

    def test_the_greatest_number_of_plain_steps(self):
        for signs in ("a", "ab", "abc", "abcd", "abcde"):
            borders = Borders("signs " + signs)
            for state, less in itertools.product(borders.states, range(6)):
                many = 10 ** 31 - less
                end = walk(borders, state, (many % len(signs) + len(signs),))[0]
                self.assertEqual(walk(borders, state, (many,)), (end, many, 0))

    def test_the_greatest_number_and_one_beyond_it(self):
        self.right("signs abc", "0>", (10 ** 31,))
        self.right("signs abc", "0>", (1, 10 ** 31, 10 ** 31))
        self.wrong("signs abc", "0>", (10 ** 31 + 1,), 0)
        self.wrong("signs abc", "0>", (1, 10 ** 31 + 1, 0), 1)
        self.wrong("signs abc", "0>", (0,), 0)
        self.wrong("signs abc", "0>", (1, -1), 1)

    def test_two_hundred_steps_and_one_more(self):
        self.assertEqual(walk(Borders("signs abc"), "0>", (1,) * 200), ("2>", 200, 0))
        self.assertEqual(walk(Borders("signs abc"), "0>", (10 ** 31,) * 200), ("2>", 2 * 10 ** 33, 0))
        text = "signs a\npiece a 0> 0> long 6 cost 9"
        self.assertEqual(walk(Borders(text), "0>", ("a",) * 200), ("0>", 1200, 1800))
        for many in (201, 202, 500):
            self.wrong("signs abc", "0>", (1,) * many, 200)
            self.wrong(text, "0>", ("a",) * many, 200)
        self.wrong(text, "0>", ("a",) * 200 + ("b",), 200)
        self.wrong(text, "0>", ("a",) * 199 + ("b", "a"), 199)
        self.wrong(text, "0>", ("a",) * 199 + (0, "a"), 199)
        self.wrong(text, "0<", ("a",) * 201, 200)

    def test_wrong_steps_come_ahead_of_fillings_that_do_not_go(self):
        self.wrong(samples.DOCUMENT, "1>", ("gap", "gaq"), 1)
        self.wrong(samples.DOCUMENT, "1>", ("gap", "gap", 0), 2)
        self.wrong(samples.DOCUMENT, "1>", ("gap", "turn"), 1)

    def test_names_of_corners_are_no_steps(self):
        self.wrong(samples.DOCUMENT, "0>", ("turn",), 0)
        self.wrong(samples.DOCUMENT, "0>", (1, "nook"), 1)

    def test_a_piece_may_have_the_name_of_a_corner(self):
        borders = Borders("signs a\npiece turn 0> 0> long 2 cost 3\ncorner turn in 0> 0> cost 0")
        self.assertEqual(walk(borders, "0>", ("turn", 1)), ("0>", 3, 3))

    def test_by_name(self):
        self.assertEqual(walk(borders=Borders(samples.DOCUMENT), begin="0>", filling=("gap",)), ("1>", 2, 5))
        self.assertEqual(walk(filling=(), begin="0>", borders=Borders("signs a")), ("0>", 0, 0))

    def right(self, text, begin, filling):
        self.assertIsNotNone(walk(Borders(text), begin, filling))

    def wrong(self, text, begin, filling, index):
        with self.assertRaises(InvalidFilling) as caught:
            walk(Borders(text), begin, filling)
        self.assertEqual(caught.exception.index, index)


class WalkAndShown(unittest.TestCase):

    def test_they_agree(self):
        for signs in ("a", "ab", "aab", "abc", "abca", "abcde", "aabab"):
            borders = Borders("signs " + signs)
            for state, many in itertools.product(borders.states, range(1, 12)):
                behind = walk(borders, state, (many,))[0]
                back = behind[0] + ("<" if behind[1] == ">" else ">")
                self.assertEqual(shown(borders, back, many), shown(borders, state, many)[::-1])
                self.assertEqual(shown(borders, state, many + 3),
                                 shown(borders, state, many) + shown(borders, behind, 3))


class SideCosts(unittest.TestCase):

    def agrees(self, text, numbers):
        borders, searched = Borders(text), search(text)
        for length, begin in itertools.product(numbers, borders.states):
            told = searched.side_costs(length, begin)
            for end in borders.states:
                self.assertEqual(side_cost(borders, length, begin, end), told.get(end), (text, length, begin, end))

    def test_as_the_search_of_all_fillings_tells(self):
        for text in [samples.DOCUMENT, samples.FREE] + some_books(5, 25, most_pieces=8):
            self.agrees(text, range(12))

    def test_longer_sides(self):
        for text in some_books(6, 8, most_pieces=8):
            self.agrees(text, range(12, 70, 3))

    def test_a_late_calendar(self):
        self.agrees(samples.LATE, range(76, 100))

    def test_beyond_the_calendar_with_each_rest(self):
        for text in [samples.LATE] + some_books(7, 20, most_pieces=8):
            borders, searched = Borders(text), search(text)
            many = searched.many
            for less, begin in itertools.product(range(many), borders.states):
                told = searched.side_costs(120 + (TOP - less) % many + (-120) % many, begin)
                for end in borders.states:
                    self.assertEqual(side_cost(borders, TOP - less, begin, end), told.get(end))

    def test_the_lengths_around_the_calendar(self):
        for text in some_books(8, 15, most_pieces=8):
            since, many = search(text).calendar(), search(text).many
            self.agrees(text, range(max(0, since - 3), since + 2 * many + 2))

    def test_no_length(self):
        for text in some_books(9, 5):
            borders = Borders(text)
            for begin, end in itertools.product(borders.states, borders.states):
                self.assertEqual(side_cost(borders, 0, begin, end), 0 if begin == end else None)
                self.assertEqual(least_filling(borders, 0, begin, end), () if begin == end else None)

    def test_no_pieces(self):
        for many in range(1, 6):
            borders = Borders("signs " + "abcde"[:many])
            for length, begin in itertools.product((0, 1, 2, 3, 7, TOP - 1, TOP), borders.states):
                move = length if begin[1] == ">" else -length
                behind = f"{(int(begin[0]) + move) % many}{begin[1]}"
                for end in borders.states:
                    self.assertEqual(side_cost(borders, length, begin, end), 0 if end == behind else None)

    def test_a_filler_at_each_phase(self):
        for many, cost in itertools.product(range(1, 6), (0, 1, 9)):
            borders = Borders(samples.fillers(many, cost))
            for length, phase, end in itertools.product((0, 1, 2, 3, 4, 5, 9, TOP - 1, TOP), range(many), range(many)):
                fewest = (phase + length - end) % many
                self.assertEqual(side_cost(borders, length, f"{phase}>", f"{end}>"),
                                 fewest * cost if fewest <= length else None)
                self.assertIsNone(side_cost(borders, length, f"{phase}>", f"{end}<"))

    def test_p_plain_steps_more_are_never_dearer(self):
        for text in some_books(10, 15, most_pieces=8):
            borders = Borders(text)
            for length, begin, end in itertools.product(range(8), borders.states, borders.states):
                cost = side_cost(borders, length, begin, end)
                more = side_cost(borders, length + len(borders.signs), begin, end)
                self.assertTrue(cost is None or more is not None and more <= cost)

    def test_a_side_is_never_dearer_than_two_that_make_it_up(self):
        source = samples.seeded(11)
        for text in some_books(12, 25, most_pieces=8):
            borders = Borders(text)
            for _ in range(60):
                begin, middle, end = (source.choice(borders.states) for _ in range(3))
                first, second = (source.choice((0, 1, 2, 3, 5, 8, 13, TOP // 2)) for _ in range(2))
                parts = side_cost(borders, first, begin, middle), side_cost(borders, second, middle, end)
                whole = side_cost(borders, first + second, begin, end)
                self.assertTrue(None in parts or whole is not None and whole <= sum(parts))

    def test_one_more_piece_makes_no_side_dearer(self):
        for text in some_books(13, 12, most_pieces=5):
            borders = Borders(text)
            more = borders.add(f"piece more 0> {borders.states[-2]} long 2 cost 1")
            for length, begin, end in itertools.product(range(9), borders.states, borders.states):
                cost, less = side_cost(borders, length, begin, end), side_cost(more, length, begin, end)
                self.assertTrue(cost is None or less is not None and less <= cost)

    def test_corners_do_not_matter(self):
        for text in some_books(14, 8):
            borders = Borders(text)
            for length, begin, end in itertools.product((1, 4, 11), borders.states, borders.states):
                self.assertEqual(side_cost(borders, length, begin, end),
                                 side_cost(borders.only(()), length, begin, end))

    def test_by_name(self):
        borders = Borders(samples.DOCUMENT)
        self.assertEqual(side_cost(borders=borders, length=3, begin="0>", end="2>"), 5)
        self.assertEqual(least_filling(end="2>", begin="0>", length=3, borders=borders), ("gap", 1))


class LeastFillings(unittest.TestCase):

    def goes(self, borders, length, begin, end):
        cost = side_cost(borders, length, begin, end)
        filling = least_filling(borders, length, begin, end)
        if cost is None:
            self.assertIsNone(filling)
            return
        self.assertIs(type(filling), tuple)
        self.assertEqual(walk(borders, begin, filling), (end, length, cost))
        self.assertLessEqual(len(filling), 200)
        for step, behind in zip(filling, filling[1:]):
            self.assertFalse(isinstance(step, int) and isinstance(behind, int), filling)

    def test_they_go_and_have_the_least_cost(self):
        for text in [samples.DOCUMENT, samples.FREE] + some_books(15, 25, most_pieces=8):
            borders = Borders(text)
            for length, begin, end in itertools.product((0, 1, 2, 3, 4, 5, 6, 7, 11, 26, 53), borders.states,
                                                        borders.states):
                self.goes(borders, length, begin, end)

    def test_the_greatest_lengths(self):
        for text in [samples.LATE, samples.fillers(5)] + some_books(16, 15, most_pieces=8):
            borders = Borders(text)
            for length, begin, end in itertools.product((TOP - 4, TOP - 3, TOP - 2, TOP - 1, TOP), borders.states,
                                                        borders.states):
                self.goes(borders, length, begin, end)

    def test_around_a_late_calendar(self):
        borders = Borders(samples.LATE)
        for length, begin, end in itertools.product(range(76, 92, 2), borders.states, borders.states):
            self.goes(borders, length, begin, end)

    def test_they_are_among_all_fillings(self):
        for text in some_books(17, 12, most_pieces=3):
            borders, searched = Borders(text), search(text)
            for length, begin in itertools.product(range(7), borders.states):
                rows = {row for row, end, cost in searched.fillings(length, begin)}
                for end in borders.states:
                    filling = least_filling(borders, length, begin, end)
                    self.assertTrue(filling is None or single(filling) in rows)

    def test_pieces_of_the_length_1_that_cost_nothing(self):
        borders = Borders("signs a\npiece a 0< 0> long 1 cost 0\npiece b 0> 0< long 1 cost 0")
        for length, begin, end in itertools.product((0, 1, 2, 5, 30, TOP), borders.states, borders.states):
            self.goes(borders, length, begin, end)

    def test_equal_calls_tell_equal_things(self):
        for text in some_books(18, 5):
            for length in (3, 9, TOP):
                for begin, end in itertools.product(Borders(text).states, Borders(text).states):
                    self.assertEqual(least_filling(Borders(text), length, begin, end),
                                     least_filling(Borders(text), length, begin, end))


class Calendars(unittest.TestCase):

    def test_as_the_search_tells(self):
        for text in [samples.DOCUMENT, samples.FREE, samples.SQUARE] + some_books(19, 60, most_pieces=8):
            self.assertEqual(calendar(Borders(text)), search(text).calendar(), text)

    def test_a_late_one(self):
        self.assertEqual([calendar(Borders(samples.LATE)), search(samples.LATE).calendar(220)], [82, 82])

    def test_no_pieces(self):
        for many in range(1, 6):
            self.assertEqual(calendar(Borders("signs " + "aabcd"[:many])), 0)

    def test_a_filler_at_each_phase(self):
        for many, cost in itertools.product(range(1, 6), (0, 1, 9)):
            self.assertEqual(calendar(Borders(samples.fillers(many, cost))), many - 1)

    def test_one_phase_and_one_piece(self):
        for long, cost in itertools.product(range(1, 7), range(3)):
            self.assertEqual(calendar(Borders(f"signs a\npiece a 0> 0> long {long} cost {cost}")), 0)
            self.assertEqual(calendar(Borders(f"signs a\npiece a 0> 0< long {long} cost {cost}")), long)

    def test_the_same_for_turned_and_moved_states(self):
        for text in some_books(20, 30, most_pieces=8):
            since, many = calendar(Borders(text)), len(Borders(text).signs)
            self.assertEqual(calendar(Borders(samples.mirrored(text))), since)
            self.assertEqual(calendar(Borders(samples.backwards(text))), since)
            self.assertEqual([calendar(Borders(samples.moved(text, by))) for by in range(many)], [since] * many)

    def test_side_costs_of_turned_and_moved_states(self):
        for text in some_books(21, 12, most_pieces=6):
            borders, many = Borders(text), len(Borders(text).signs)
            turned, moved, back = (Borders(made) for made in (
                samples.mirrored(text), samples.moved(text, 2), samples.backwards(text)))
            for length, begin, end in itertools.product((1, 3, 8, TOP), borders.states, borders.states):
                cost = side_cost(borders, length, begin, end)
                self.assertEqual(cost, side_cost(turned, length, samples.mirrored_state(begin, many),
                                                 samples.mirrored_state(end, many)))
                self.assertEqual(cost, side_cost(moved, length, samples.moved_state(begin, 2, many),
                                                 samples.moved_state(end, 2, many)))
                self.assertEqual(cost, side_cost(back, length, samples.about(end), samples.about(begin)))

    def test_by_name_and_kind(self):
        self.assertEqual(calendar(borders=Borders(samples.DOCUMENT)), 8)
        self.assertIs(type(calendar(Borders("signs a"))), int)
