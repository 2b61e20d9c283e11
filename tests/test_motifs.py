import string
import unittest

from cornerways.errors import BadValue, InvalidLine, InvalidNames, InvalidText
from cornerways.motifs import Borders
from cornerways.rooms import Room
from reading import is_book_text as right
from values import Claims, changed, nested, others_than_strings, others_than_tuples

GAP = "piece gap 0> 1> long 2 cost 5"
TURN = "corner turn out 0> 0> cost 0"
TEXT = f"signs abc\n{GAP}\n{TURN}\ncorner turn out 1> 2> cost 1\ncorner nook in 0> 2< cost 3"

PIECES = [f"piece {letter * 8} {k % 3}> 0< long {k % 6 + 1} cost {k}" for k, letter in enumerate("abcdefgh")]
CORNERS = [f"corner {'abcd'[k % 4]} {('out', 'in')[k % 2]} {k % 3}< 1> cost {k % 10}" for k in range(12)]
FULL = "\n".join(["signs abcde"] + PIECES + CORNERS)


class Texts(unittest.TestCase):

    def wrong(self, text):
        with self.assertRaises(InvalidText) as caught:
            Borders(text)
        self.assertIs(caught.exception.given, text)
        self.assertIsInstance(caught.exception, BadValue)
        self.assertIsInstance(caught.exception, ValueError)

    def taken(self, text):
        self.assertEqual(Borders(text).text, text)

    def agrees(self, text):
        if right(text):
            self.taken(text)
        else:
            self.wrong(text)

    def test_what_it_tells(self):
        borders = Borders(TEXT)
        self.assertEqual(borders.text, TEXT)
        self.assertEqual(borders.signs, "abc")
        self.assertEqual(borders.states, ("0<", "0>", "1<", "1>", "2<", "2>"))
        self.assertEqual(borders.pieces, (("gap", "0>", "1>", 2, 5),))
        self.assertEqual(borders.corners, (
            ("turn", "out", "0>", "0>", 0), ("turn", "out", "1>", "2>", 1), ("nook", "in", "0>", "2<", 3)))
        self.assertEqual(borders.names, ("nook", "turn"))

    def test_by_name(self):
        self.assertEqual(Borders(text=TEXT), Borders(TEXT))
        self.assertEqual(Borders(text=TEXT).corners, Borders(TEXT).corners)

    def test_the_kinds_of_what_it_tells(self):
        borders = Borders(TEXT)
        self.assertEqual([type(value) for value in (borders.text, borders.signs)], [str, str])
        self.assertEqual([type(value) for value in (borders.states, borders.pieces, borders.corners, borders.names)],
                         [tuple] * 4)
        self.assertEqual([type(value) for value in borders.pieces[0]], [str, str, str, int, int])
        self.assertEqual([type(value) for value in borders.corners[0]], [str, str, str, str, int])

    def test_a_motif_alone(self):
        plain = Borders("signs a")
        self.assertEqual([plain.signs, plain.states, plain.pieces, plain.corners, plain.names],
                         ["a", ("0<", "0>"), (), (), ()])

    def test_the_longest_motif_and_signs_that_are_alike(self):
        alike = Borders("signs zzaza")
        self.assertEqual(alike.signs, "zzaza")
        self.assertEqual(alike.states, ("0<", "0>", "1<", "1>", "2<", "2>", "3<", "3>", "4<", "4>"))

    def test_all_that_a_border_book_may_have(self):
        full = Borders(FULL)
        self.assertEqual(full.pieces[0], ("aaaaaaaa", "0>", "0<", 1, 0))
        self.assertEqual(full.pieces[7], ("hhhhhhhh", "1>", "0<", 2, 7))
        self.assertEqual([len(full.pieces), len(full.corners)], [8, 12])
        self.assertEqual(full.corners[11], ("d", "in", "2<", "1>", 1))
        self.assertEqual(full.names, ("a", "b", "c", "d"))

    def test_the_numbers_of_signs(self):
        for signs in ("a", "az", "abc", "abcd", "abcde"):
            self.taken("signs " + signs)
        for signs in ("", "abcdef", "aB", "A", "a1", "a b", "a_", "a>"):
            self.wrong("signs " + signs)

    def test_one_piece_too_many(self):
        self.wrong("\n".join(["signs abcde"] + PIECES + ["piece i 0> 0> long 1 cost 0"] + CORNERS))
        self.wrong("\n".join(["signs abcde"] + PIECES + ["piece i 0> 0> long 1 cost 0"]))

    def test_one_corner_too_many(self):
        self.wrong(FULL + "\ncorner a out 4> 4> cost 0")

    def test_names_of_corners(self):
        four = [f"corner {name} out 0> 0> cost 0" for name in ("a", "b", "c", "aa")]
        self.assertEqual(Borders("\n".join(["signs a"] + four)).names, ("a", "aa", "b", "c"))
        self.wrong("\n".join(["signs a"] + four + ["corner d out 0> 0> cost 0"]))

    def test_names_of_pieces_are_different(self):
        self.taken(f"signs abc\n{GAP}\npiece gaq 0> 1> long 2 cost 5")
        self.wrong(f"signs abc\n{GAP}\npiece gap 1> 1> long 1 cost 1")
        self.wrong(f"signs abc\n{GAP}\npiece gaq 0> 1> long 2 cost 5\npiece gap 1> 1> long 1 cost 1")

    def test_a_piece_and_a_corner_may_have_one_name(self):
        both = Borders("signs a\npiece turn 0> 0> long 1 cost 0\ncorner turn in 0> 0> cost 0")
        self.assertEqual([both.pieces[0][0], both.names], ["turn", ("turn",)])

    def test_words_of_the_texts_may_be_names(self):
        told = Borders("signs a\npiece piece 0> 0> long 1 cost 0\npiece corner 0> 0> long 1 cost 0\n"
                       "corner corner in 0> 0> cost 0\ncorner out out 0> 0> cost 0")
        self.assertEqual([row[0] for row in told.pieces + told.corners], ["piece", "corner", "corner", "out"])

    def test_no_line_twice(self):
        self.wrong(f"signs abc\n{GAP}\n{GAP}")
        self.wrong(f"signs abc\n{TURN}\n{TURN}")
        self.wrong(f"signs abc\n{TURN}\ncorner turn in 0> 0> cost 0\n{TURN}")
        self.wrong("signs abc\nsigns abc")

    def test_corners_that_differ_in_one_word_alone(self):
        rows = [TURN, "corner turm out 0> 0> cost 0", "corner turn in 0> 0> cost 0", "corner turn out 0< 0> cost 0",
                "corner turn out 0> 1> cost 0", "corner turn out 0> 0> cost 1"]
        self.assertEqual(len(Borders("\n".join(["signs abc"] + rows)).corners), 6)

    def test_the_order_of_the_lines(self):
        self.wrong(f"signs abc\n{TURN}\n{GAP}")
        self.wrong(f"signs abc\n{GAP}\n{TURN}\npiece flap 0> 1> long 2 cost 5")
        self.wrong(f"{GAP}\nsigns abc")
        self.wrong(GAP)
        self.wrong(TURN)
        self.wrong(f"signs abc\n{GAP}\nsigns ab")

    def test_phases_that_the_motif_has(self):
        for many in range(1, 6):
            for phase in range(10):
                for row in (f"piece a {phase}> 0> long 1 cost 0", f"piece a 0> {phase}< long 1 cost 0",
                            f"corner a in {phase}< 0> cost 0", f"corner a in 0> {phase}> cost 0"):
                    text = f"signs {'abcde'[:many]}\n{row}"
                    if phase < many:
                        self.taken(text)
                    else:
                        self.wrong(text)

    def test_lengths_and_costs(self):
        for number in ("0", "1", "2", "3", "4", "5", "6", "7", "8", "9", "", "10", "01", "-1", "+1", "a", " ", "1.5"):
            self.agrees(f"signs a\npiece a 0> 0> long {number} cost 0")
            self.agrees(f"signs a\npiece a 0> 0> long 1 cost {number}")
            self.agrees(f"signs a\ncorner a out 0> 0> cost {number}")
        self.assertEqual([Borders(f"signs a\npiece a 0> 0> long {k} cost {k + 3}").pieces[0][3:] for k in range(1, 7)],
                         [(k, k + 3) for k in range(1, 7)])
        self.wrong("signs a\npiece a 0> 0> long 0 cost 0")
        self.wrong("signs a\npiece a 0> 0> long 7 cost 0")

    def test_words(self):
        for word in ("a", "z", "abcdefgh", "zzzzzzzz"):
            self.taken(f"signs a\npiece {word} 0> 0> long 1 cost 0\ncorner {word} in 0> 0> cost 0")
        for word in ("", "abcdefghi", "A", "aB", "a1", "1", "a-b", "a_b", "a b", "a\nb", "a.", ">"):
            self.wrong(f"signs a\npiece {word} 0> 0> long 1 cost 0")
            self.wrong(f"signs a\ncorner {word} in 0> 0> cost 0")

    def test_turns_and_states(self):
        for turn in ("out", "in"):
            self.assertEqual(Borders(f"signs a\ncorner a {turn} 0> 0< cost 0").corners, (("a", turn, "0>", "0<", 0),))
        for turn in ("", "Out", "ou", "outt", "on", "i", "x", "0>", "out in"):
            self.wrong(f"signs a\ncorner a {turn} 0> 0> cost 0")
        for state in ("", "0", ">", "0=", "00>", "-1>", "0>>", "> 0", "a>", "0 >", ">0"):
            self.wrong(f"signs a\ncorner a in {state} 0> cost 0")
            self.wrong(f"signs a\ncorner a in 0> {state} cost 0")
            self.wrong(f"signs a\npiece a {state} 0> long 1 cost 0")
            self.wrong(f"signs a\npiece a 0> {state} long 1 cost 0")

    def test_nothing_else_stands_in_a_text(self):
        for text in ("", " ", "\n", "signs", "signs ", "abc", "sign abc", "Signs abc", "signs abc ", " signs abc",
                     "signs  abc", "signs abc\n", "\nsigns abc", "signs abc\n\n" + TURN, f"signs abc\n{TURN}\n",
                     f"signs abc\n{TURN} ", f"signs abc\n {TURN}", f"signs abc \n{TURN}", f"signs abc {TURN}",
                     f"signs abc\n{GAP}  \n{TURN}", f"signs abc, {TURN}", TEXT + "\n#", TEXT + "\n\n", TEXT + "\x00"):
            self.wrong(text)

    def test_missing_and_surplus_words(self):
        for row in (GAP, TURN):
            words = row.split(" ")
            for at in range(len(words)):
                self.wrong("signs abc\n" + " ".join(words[:at] + words[at + 1:]))
                self.wrong("signs abc\n" + " ".join(words[:at] + [words[at]] + words[at:]))
                self.wrong("signs abc\n" + " ".join(words[:at] + [""] + words[at:]))
                self.agrees("signs abc\n" + " ".join(words[:at] + ["signs"] + words[at + 1:]))
            self.wrong("signs abc\n" + " ".join(words + ["cost"]))
            self.wrong("signs abc\n" + row.replace("cost", "Cost"))
            self.wrong("signs abc\n" + row.replace(" cost ", " long "))

    def test_to_the_letter(self):
        short = f"signs abc\npiece gap 0> 1> long 2 cost 5\npiece a 0< 2< long 6 cost 0\n{TURN}\ncorner a in 0> 2< cost 3"
        for text in changed(short, " \n<>012367ab"):
            self.agrees(text)

    def test_every_printed_sign_at_each_place_of_short_texts(self):
        for text in ("signs ab", "signs ab\npiece a 0> 1> long 6 cost 9", "signs ab\ncorner a in 0> 1< cost 9"):
            for changed_text in changed(text, string.printable[:95] + "\n"):
                self.agrees(changed_text)

    def test_greatest_texts_changed(self):
        for text in changed(FULL, "a 0\n"):
            self.agrees(text)

    def test_values_of_other_kinds(self):
        for value in others_than_strings() + [Borders("signs a"), Room("x out"), ("signs", "abc"), ["signs abc"]]:
            self.wrong(value)


class Objects(unittest.TestCase):

    def test_equal_if_the_texts_are(self):
        self.assertTrue(Borders(TEXT) == Borders(TEXT))
        self.assertFalse(Borders(TEXT) != Borders(TEXT))
        self.assertFalse(Borders("signs a") == Borders("signs b"))
        self.assertTrue(Borders("signs a") != Borders("signs b"))

    def test_unequal_if_lines_stand_in_another_order(self):
        lines = TEXT.split("\n")
        other = Borders("\n".join(lines[:2] + lines[:1:-1]))
        self.assertEqual(sorted(other.corners), sorted(Borders(TEXT).corners))
        self.assertFalse(other == Borders(TEXT))

    def test_never_equal_to_values_of_another_class(self):
        borders = Borders("signs abc")
        for value in others_than_strings() + ["signs abc", Room("x out"), Claims(), borders.pieces]:
            self.assertIs(borders == value, False)
            self.assertIs(borders != value, True)
        self.assertFalse(borders in ["signs abc", None, Room("x out")])
        self.assertTrue(borders in ["signs abc", Borders("signs abc")])

    def test_true(self):
        self.assertIs(bool(Borders("signs a")), True)
        self.assertIs(bool(Borders(TEXT)), True)

    def test_str_is_the_text(self):
        self.assertEqual(str(Borders(TEXT)), TEXT)
        self.assertIs(type(str(Borders("signs a"))), str)

    def test_calls_tell_the_same_each_time(self):
        borders = Borders(TEXT)
        first = [borders.text, borders.signs, borders.states, borders.pieces, borders.corners, borders.names]
        borders.add("corner nook out 0> 0> cost 0")
        borders.only(("nook",))
        self.assertEqual(first, [borders.text, borders.signs, borders.states, borders.pieces, borders.corners,
                                 borders.names])

    def test_properties_are_not_set(self):
        borders = Borders(TEXT)
        for name in ("text", "signs", "states", "pieces", "corners", "names"):
            with self.assertRaises(AttributeError):
                setattr(borders, name, "signs b")
        self.assertEqual(borders, Borders(TEXT))


class Add(unittest.TestCase):

    def wrong(self, borders, line):
        before = borders.text
        with self.assertRaises(InvalidLine) as caught:
            borders.add(line)
        self.assertIs(caught.exception.given, line)
        self.assertIsInstance(caught.exception, BadValue)
        self.assertIsInstance(caught.exception, ValueError)
        self.assertEqual(borders, Borders(before))
        self.assertEqual(borders.corners, Borders(before).corners)

    def test_a_piece_behind_the_other_pieces(self):
        borders = Borders(TEXT)
        more = borders.add("piece flap 2< 1< long 6 cost 9")
        self.assertIsInstance(more, Borders)
        self.assertEqual(more.text, TEXT.replace(GAP, GAP + "\npiece flap 2< 1< long 6 cost 9"))
        self.assertEqual(more.pieces, (("gap", "0>", "1>", 2, 5), ("flap", "2<", "1<", 6, 9)))
        self.assertEqual(more.corners, borders.corners)
        self.assertEqual(borders, Borders(TEXT))

    def test_a_corner_behind_the_other_corners(self):
        borders = Borders(TEXT)
        more = borders.add("corner turn in 2> 2> cost 7")
        self.assertEqual(more.text, TEXT + "\ncorner turn in 2> 2> cost 7")
        self.assertEqual(more.corners, borders.corners + (("turn", "in", "2>", "2>", 7),))
        self.assertEqual(more.pieces, borders.pieces)
        self.assertEqual(borders, Borders(TEXT))
        self.assertEqual(borders.names, ("nook", "turn"))

    def test_first_pieces_and_corners(self):
        self.assertEqual(Borders("signs a").add("piece a 0> 0> long 1 cost 0").text,
                         "signs a\npiece a 0> 0> long 1 cost 0")
        self.assertEqual(Borders(f"signs a\n{TURN}").add("piece a 0> 0> long 1 cost 0").text,
                         f"signs a\npiece a 0> 0> long 1 cost 0\n{TURN}")
        self.assertEqual(Borders("signs a").add(TURN).text, f"signs a\n{TURN}")
        self.assertEqual(Borders(f"signs abc\n{GAP}").add(TURN).text, f"signs abc\n{GAP}\n{TURN}")

    def test_by_name(self):
        self.assertEqual(Borders("signs abc").add(line=GAP), Borders("signs abc").add(GAP))

    def test_one_behind_the_other(self):
        borders = Borders("signs abcde")
        for row in CORNERS + PIECES:
            borders = borders.add(row)
        self.assertEqual(borders.text, FULL)

    def test_no_more_than_a_border_book_may_have(self):
        full = Borders(FULL)
        self.wrong(full, "piece i 0> 0> long 1 cost 0")
        self.wrong(full, "corner a out 4> 4> cost 0")
        self.wrong(Borders("\n".join(["signs abcde"] + PIECES)), "piece i 0> 0> long 1 cost 0")
        four = Borders("\n".join(["signs abcde"] + CORNERS[:4]))
        self.wrong(four, "corner e out 4> 4> cost 0")
        self.assertEqual(len(four.add("corner a out 4> 4> cost 0").corners), 5)

    def test_what_makes_no_border_book(self):
        borders = Borders(TEXT)
        for line in ("", " ", "piece", "piece ", "corner", "signs abc", "signs ab", GAP, TURN, "turn",
                     "piece gap 1> 1> long 1 cost 0", "piece flap 3> 1> long 1 cost 0", "piece flap 0> 1> long 7 cost 0",
                     "piece flap 0> 1> long 1 cost 10", "corner turn out 0> 3> cost 0", "corner turn up 0> 0> cost 0",
                     " " + TURN.replace("0 ", "1 "), "corner turn out 2> 2> cost 0 ", "Corner turn out 2> 2> cost 0"):
            self.wrong(borders, line)

    def test_lines_with_a_newline(self):
        borders = Borders("signs abc")
        for line in (GAP + "\n" + TURN, GAP + "\n", "\n" + GAP, TURN + "\n", "\n" + TURN, "\n",
                     TURN + "\ncorner turn out 1> 2> cost 1"):
            self.wrong(borders, line)
        self.assertEqual(borders.add(GAP).add(TURN).text, f"signs abc\n{GAP}\n{TURN}")

    def test_values_of_other_kinds(self):
        for value in others_than_strings() + [(GAP,), [TURN], Borders("signs abc"), Room("x out")]:
            self.wrong(Borders("signs abc"), value)


class Only(unittest.TestCase):

    def wrong(self, borders, names, index):
        before = borders.text
        with self.assertRaises(InvalidNames) as caught:
            borders.only(names)
        self.assertIs(type(caught.exception.index), type(index))
        self.assertEqual(caught.exception.index, index)
        self.assertIsInstance(caught.exception, BadValue)
        self.assertIsInstance(caught.exception, ValueError)
        self.assertEqual(borders, Borders(before))

    def test_the_corners_with_these_names(self):
        borders = Borders(TEXT)
        turn = borders.only(("turn",))
        self.assertIsInstance(turn, Borders)
        self.assertEqual(turn.text, f"signs abc\n{GAP}\n{TURN}\ncorner turn out 1> 2> cost 1")
        self.assertEqual([turn.names, turn.pieces, turn.states], [("turn",), borders.pieces, borders.states])
        self.assertEqual(borders.only(("nook",)).text, f"signs abc\n{GAP}\ncorner nook in 0> 2< cost 3")
        self.assertEqual(borders, Borders(TEXT))

    def test_all_names_in_any_order(self):
        borders = Borders(TEXT)
        self.assertEqual(borders.only(("turn", "nook")), borders)
        self.assertEqual(borders.only(("nook", "turn")), borders)
        self.assertEqual(Borders(FULL).only(("d", "b", "a", "c")).text, FULL)

    def test_corners_of_several_names_keep_their_order(self):
        self.assertEqual(Borders(FULL).only(("c", "a")).text, "\n".join(["signs abcde"] + PIECES + CORNERS[::2]))

    def test_no_names(self):
        self.assertEqual(Borders(TEXT).only(()).text, f"signs abc\n{GAP}")
        self.assertEqual(Borders("signs a").only(()).text, "signs a")

    def test_by_name(self):
        self.assertEqual(Borders(TEXT).only(names=("nook",)), Borders(TEXT).only(("nook",)))

    def test_a_piece_with_the_name_of_a_corner_stays(self):
        both = Borders("signs a\npiece turn 0> 0> long 1 cost 0\ncorner turn in 0> 0> cost 0\ncorner a in 0> 0> cost 0")
        self.assertEqual(both.only(("a",)).text, "signs a\npiece turn 0> 0> long 1 cost 0\ncorner a in 0> 0> cost 0")

    def test_the_first_name_that_is_not_right(self):
        borders = Borders(TEXT)
        self.wrong(borders, ("turm",), 0)
        self.wrong(borders, ("",), 0)
        self.wrong(borders, ("gap",), 0)
        self.wrong(borders, ("turn", "nok"), 1)
        self.wrong(borders, ("turn", "nook", "corner", "x"), 2)
        self.wrong(borders, ("x", "turn", "turn"), 0)
        self.wrong(Borders("signs a"), ("turn",), 0)

    def test_names_that_stand_twice(self):
        borders = Borders(TEXT)
        self.wrong(borders, ("turn", "turn"), 1)
        self.wrong(borders, ("turn", "nook", "turn"), 2)
        self.wrong(borders, ("turn", "turn", "x"), 1)
        self.wrong(borders, ("nook", "nook", "nook"), 1)

    def test_values_of_other_kinds_among_the_names(self):
        for value in others_than_strings() + [("turn",), ["turn"], nested(9)]:
            self.wrong(Borders(TEXT), (value,), 0)
            self.wrong(Borders(TEXT), ("turn", value, "x"), 1)

    def test_values_that_are_no_tuples(self):
        for value in others_than_tuples() + [["nook", "turn"], [], {"turn": 1}, {"turn"}, Borders(TEXT)]:
            self.wrong(Borders(TEXT), value, None)

    def test_what_is_given_is_not_changed(self):
        names = ("turn", "nook")
        Borders(TEXT).only(names)
        self.assertEqual(names, ("turn", "nook"))
