"""Wrong values for each parameter of the functions of sides, closing, sizes, comparing, mends and papers."""

import copy
import itertools
import unittest

import samples
from cornerways import closing, comparing, errors, mends, papers, sides, sizes
from cornerways.motifs import Borders
from cornerways.rooms import Room
from values import Claims, nested, others, others_than_integers, others_than_strings, others_than_tuples

TOP = 10 ** 30

# A room with which the table of the border book is too great, so TooMany would come last.
GREAT = "x-9 out, y-9 out, z-9 out"
LETTERS = "x out, y out"


def given(error, *values):
    """Wrong values with the error that has what was given."""
    return [(value, error, "given", value) for value in values]


def index(error, *pairs):
    """Wrong values with the error that has an index."""
    return [(value, error, "index", at) for value, at in pairs]


def wrong_borders():
    return given(errors.NotBorders, *others(), samples.FREE, (samples.FREE,), "", 0, 1, (), Borders, Room("x out"),
                 nested(10), [Borders("signs a")], (Borders("signs a"),))


def wrong_rooms():
    return given(errors.NotARoom, *others(), samples.OBLONG, (samples.OBLONG,), "", 0, 1, (), Room, Borders("signs a"),
                 nested(10), [Room("x out")], (Room("x out"),))


def wrong_inner_rooms():
    return wrong_rooms() + [(Room(text), errors.OtherLetters, None, None) for text in (
        "x out", "y out", "z out", "x out, z out", "y out, z in", "x out, y out, z out")]


def wrong_states():
    return given(errors.InvalidState, *others_than_strings(), "", "0", ">", "2>", "2<", "5>", "9<", "-1>", "0> ", " 0>",
                 "00>", ">0", "0>>", "0=", "a>", "0>1>", "signs", ("0>",), ["0>"], Borders("signs a"))


def wrong_numbers(most):
    return given(errors.InvalidNumber, *others_than_integers(), -1, most + 1, 10 ** 39, (1,), [1], {1: 1}, "1",
                 Room("x out"))


def wrong_texts():
    return given(errors.InvalidText, *others_than_strings(), "A", "a ", " a", "a b", "a\n", "0", "0>", "a" * 1001,
                 "ab" * 2000, "~", ("a",), ["a"], Borders("signs a"))


def wrong_fillings():
    steps = [value for value in others_than_strings() if type(value) is not int or not 1 <= value <= 10 ** 31]
    steps += ["", "gaq", "turn", "Gap", "gap ", "1", 0, -1, 10 ** 31 + 1, ("gap",), ["gap"], [1], (1,), nested(9)]
    return (index(errors.InvalidFilling, *[((step,), 0) for step in steps])
            + index(errors.InvalidFilling, *[((1, "gap", step, step), 2) for step in steps])
            + index(errors.InvalidFilling, *[((1,) * 200 + (step,), 200) for step in steps])
            + index(errors.InvalidFilling, *[(value, None) for value in others_than_tuples() + ["gap", [1], ["gap"]]])
            + index(errors.InvalidFilling, ((1,) * 201, 200), ((1,) * 200 + (0,) * 50, 200), ((1,) * 199 + (0, 1), 199)))


def wrong_sizes():
    numbers = others_than_integers() + [-1, TOP + 1, 10 ** 39, (1,), [1], "1", Room("x out")]
    return (index(errors.InvalidSizes, *[((number, 1), 0) for number in numbers])
            + index(errors.InvalidSizes, *[((1, number), 1) for number in numbers])
            + index(errors.InvalidSizes, *[((1, number, number, number), 1) for number in numbers])
            + index(errors.InvalidSizes, *[(value, None) for value in others_than_tuples() + [[1, 1], {1: 1}]])
            + index(errors.InvalidSizes, ((), None), ((1,), None), ((1, 1, 1), 2), ((1, 1, None, -1), 2)))


def wrong_wishes():
    return given(errors.InvalidWish, *others(), "always", (), ("always", 0), ("at most",), ("at most", -1),
                 ("at most", 1001), ("at most", True), ("at most", "0"), ["always"], ("Always",), (Claims(),), nested(10))


def wrong_lines():
    lines = others_than_strings() + ["", "signs ab", "corner d in 0< 0< cost 2", "piece gap 0> 0> long 1 cost 0"]
    more = "piece more 0> 0> long 1 cost 0"
    return (index(errors.InvalidLines, *[((line,), 0) for line in lines])
            + index(errors.InvalidLines, *[((more, line, line), 1) for line in lines])
            + index(errors.InvalidLines, *[(value, None) for value in others_than_tuples() + [more, [more]]])
            + index(errors.InvalidLines, ((more, more), 1), (tuple(more.replace("r", at) for at in "abcde"), 4)))


def parameters(told):
    """The rows (parameter, a right value, wrong values) of a function's parameters."""
    borders = Borders(samples.FREE + "\ncorner d in 0< 0< cost 2").add("piece gap 0> 1> long 2 cost 5")
    kinds = {
        "borders": (borders, wrong_borders), "one": (borders, wrong_borders),
        "other": (Borders("signs abc"), wrong_borders), "room": (Room(LETTERS), wrong_rooms),
        "inner": (Room("y out, x-2 out"), wrong_inner_rooms), "sizes": ((1, 2), wrong_sizes),
        "begin": ("0>", wrong_states), "end": ("1>", wrong_states), "length": (4, lambda: wrong_numbers(TOP)),
        "top": (7, lambda: wrong_numbers(TOP)), "many": (9, lambda: wrong_numbers(1000)), "text": ("ab", wrong_texts),
        "filling": ((2, "gap"), wrong_fillings), "wish": (("at most", 30), wrong_wishes),
        "lines": (("corner d in 1< 0< cost 2",), wrong_lines)}
    return [(name, *kinds[name]) for name in told.split()]


FUNCTIONS = [
    (sides.shown, "borders begin many"), (sides.beginnings, "borders text"), (sides.walk, "borders begin filling"),
    (sides.side_cost, "borders length begin end"), (sides.least_filling, "borders length begin end"),
    (sides.calendar, "borders"), (closing.least_cost, "borders room sizes"),
    (closing.least_border, "borders room sizes"), (closing.ways, "borders room sizes"), (sizes.always, "borders room"),
    (sizes.failing, "borders room"), (sizes.dearest, "borders room"), (sizes.count_closing, "borders room top"),
    (sizes.count_both, "borders room inner top"), (sizes.enough, "borders room"), (comparing.alike, "one other room"),
    (comparing.parting, "one other room"), (comparing.never_dearer, "one other room"),
    (mends.mending, "borders room wish lines"), (papers.paper_of_cost, "borders room sizes"),
    (papers.paper_of_floor, "borders room sizes"), (papers.paper_of_always, "borders room"),
    (papers.paper_of_unlike, "one other room")]

BASES = {errors.OtherLetters: (errors.NoAnswer, ArithmeticError)}


class Wrong(unittest.TestCase):

    def raises(self, row, function, *places, **names):
        value, error, attribute, told = row
        with self.assertRaises(error) as caught:
            function(*places, **names)
        self.assertIs(type(caught.exception), error)
        for base in BASES.get(error, (errors.BadValue, ValueError)):
            self.assertIsInstance(caught.exception, base)
        if attribute == "given":
            self.assertIs(caught.exception.given, value)
        if attribute == "index":
            self.assertIs(type(caught.exception.index), type(told))
            self.assertEqual(caught.exception.index, told)

    def test_right_values_raise_nothing(self):
        for function, told in FUNCTIONS:
            function(*[right for name, right, wrong in parameters(told)])

    def test_each_wrong_value_by_place_and_by_name(self):
        for function, told in FUNCTIONS:
            rows = parameters(told)
            values = [right for name, right, wrong in rows]
            for at, (name, right, wrong) in enumerate(rows):
                for row in wrong():
                    self.raises(row, function, *values[:at], row[0], *values[at + 1:])
                    named = {other: value for (other, _, _), value in zip(rows, values)}
                    named[name] = row[0]
                    self.raises(row, function, **dict(reversed(list(named.items()))))

    def test_only_the_first_error_is_raised(self):
        for function, told in FUNCTIONS:
            rows = parameters(told)
            for many in range(2, len(rows) + 1):
                for places in itertools.combinations(range(len(rows)), many):
                    for turn in range(12):
                        values = [right for name, right, wrong in rows]
                        chosen = [(at, rows[at][2]()) for at in places]
                        chosen = [(at, wrong[(5 * turn + 7 * at) % len(wrong)]) for at, wrong in chosen]
                        for at, row in chosen:
                            values[at] = row[0]
                        self.raises(chosen[0][1], function, *values)

    def test_wrong_values_come_ahead_of_great_tables(self):
        great = Room(GREAT)
        for function, told in FUNCTIONS:
            rows = parameters(told)
            values = [great if name in ("room", "inner") else right for name, right, wrong in rows]
            for at, (name, right, wrong) in enumerate(rows):
                if "room" in told.split() and name not in ("sizes", "inner"):
                    for row in wrong():
                        self.raises(row, function, *values[:at], row[0], *values[at + 1:])

    def test_truths_are_no_integers(self):
        borders, room = Borders("signs ab"), Room("x out")
        for truth in (True, False):
            for error, function, arguments in (
                    (errors.InvalidNumber, sides.shown, (borders, "0>", truth)),
                    (errors.InvalidNumber, sides.side_cost, (borders, truth, "0>", "1>")),
                    (errors.InvalidNumber, sides.least_filling, (borders, truth, "0>", "1>")),
                    (errors.InvalidFilling, sides.walk, (borders, "0>", (truth,))),
                    (errors.InvalidSizes, closing.least_cost, (borders, room, (truth,))),
                    (errors.InvalidNumber, sizes.count_closing, (borders, room, truth)),
                    (errors.InvalidNumber, sizes.count_both, (borders, room, room, truth))):
                self.assertRaises(error, function, *arguments)

    def test_states_of_phases_that_the_motif_has_not(self):
        for many in range(1, 6):
            borders = Borders("signs " + "abcde"[:many])
            for phase in range(10):
                for state in (f"{phase}<", f"{phase}>"):
                    for function, arguments in ((sides.shown, (borders, state, 1)), (sides.walk, (borders, state, (1,))),
                                                (sides.side_cost, (borders, 1, state, "0>")),
                                                (sides.side_cost, (borders, 1, "0>", state)),
                                                (sides.least_filling, (borders, 1, state, "0>")),
                                                (sides.least_filling, (borders, 1, "0>", state))):
                        if phase < many:
                            function(*arguments)
                        else:
                            with self.assertRaises(errors.InvalidState) as caught:
                                function(*arguments)
                            self.assertIs(caught.exception.given, state)

    def test_the_greatest_numbers_and_one_beyond_them(self):
        borders, room = Borders("signs ab\ncorner c out 0> 0> cost 0"), Room("x out")
        for most, call in ((1000, lambda number: sides.shown(borders, "0>", number)),
                           (TOP, lambda number: sides.side_cost(borders, number, "0>", "0>")),
                           (TOP, lambda number: sides.least_filling(borders, number, "0>", "0>")),
                           (TOP, lambda number: sizes.count_closing(borders, room, number)),
                           (TOP, lambda number: sizes.count_both(borders, room, room, number))):
            call(0)
            call(most)
            for number in (-1, most + 1, 10 ** 39):
                with self.assertRaises(errors.InvalidNumber) as caught:
                    call(number)
                self.assertIs(caught.exception.given, number)

    def test_values_that_claim_to_be_equal_to_right_ones(self):
        borders, room = Borders("signs ab"), Room("x out")
        for error, function, arguments in (
                (errors.NotBorders, sides.calendar, (Claims(),)),
                (errors.InvalidState, sides.shown, (borders, Claims(), 1)),
                (errors.InvalidText, sides.beginnings, (borders, Claims())),
                (errors.InvalidFilling, sides.walk, (borders, "0>", (Claims(),))),
                (errors.NotARoom, sizes.always, (borders, Claims())),
                (errors.InvalidSizes, closing.ways, (borders, room, (Claims(),)))):
            self.assertRaises(error, function, *arguments)


class Given(unittest.TestCase):

    def test_what_is_given_is_not_changed(self):
        for function, told in FUNCTIONS:
            values = [right for name, right, wrong in parameters(told)]
            before = [copy.deepcopy(vars(value)) if isinstance(value, (Borders, Room)) else value for value in values]
            function(*values)
            after = [vars(value) if isinstance(value, (Borders, Room)) else value for value in values]
            self.assertEqual(after, before)

    def test_by_place_and_by_name(self):
        for function, told in FUNCTIONS:
            rows = parameters(told)
            names = {name: right for name, right, wrong in reversed(rows)}
            self.assertEqual(function(**names), function(*[right for name, right, wrong in rows]))

    def test_equal_arguments_tell_equal_things(self):
        for function, told in FUNCTIONS:
            first, second = ([right for name, right, wrong in parameters(told)] for _ in range(2))
            self.assertEqual(function(*first), function(*second))
            self.assertEqual(function(*first), function(*first))

    def test_wrong_calls_change_nothing(self):
        for function, told in FUNCTIONS:
            values = [right for name, right, wrong in parameters(told)]
            known = function(*values)
            for name, right, wrong in parameters(told)[1:]:
                with self.assertRaises((errors.BadValue, errors.NoAnswer)):
                    function(*[wrong()[0][0] if name == other else value for (other, _, _), value in
                               zip(parameters(told), values)])
            self.assertEqual(function(*values), known)
