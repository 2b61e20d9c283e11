"""The checker takes just the papers that point [13] of the document takes, and what it accepts is true."""

import itertools
import unittest

import samples
from cornerways.checker import accepts
from cornerways.closing import least_cost
from cornerways.motifs import Borders
from cornerways.papers import paper_of_always, paper_of_cost, paper_of_floor, paper_of_unlike
from cornerways.rooms import Room
from cornerways.sizes import failing
from places import put_otherwise
from reading import least, reads
from samples import DOCUMENT, FREE, OBLONG, PLAIN, SQUARE, kind_pairs, some_pairs
from search import letters_of, lengths, search, sides_of
from values import Claims, nested, others, others_than_strings, others_than_tuples

GREAT = 10 ** 39

KEEP = "signs abc" + samples.keeping(3)
ONE = "signs a\ncorner c out 0> 0> cost 0"
STILL = ("0>", (((3,), 0), ((), 0), ((3,), 0), ((), 0)))


def papers_for(text, room, sizes):
    """The papers of the package about a border book and a room."""
    borders, made = Borders(text), Room(room)
    told = [paper_of_cost(borders, made, sizes), paper_of_floor(borders, made, sizes), paper_of_always(borders, made)]
    return [pair for pair in told if pair is not None]


def some_papers(seed, many, **limits):
    """Papers about border books and rooms put together by a seeded random source."""
    source = samples.seeded(seed)
    rows = []
    for text, room in kind_pairs(seed, many, **limits) + some_pairs(seed + 1, many // 2, most_signs=3, **limits):
        sizes = tuple(source.randint(0, 9) for _ in letters_of(room))
        rows += papers_for(text, room, sizes)
    return rows


def unlike_papers(seed, many):
    """Papers about two border books."""
    pairs = kind_pairs(seed, many, letters="xy", most_pieces=2, most_signs=2, most_sides=3)
    others_too = kind_pairs(seed + 1, many, most_pieces=2)
    rows = [paper_of_unlike(Borders(one), Borders(other), Room(room))
            for (one, room), (other, _) in zip(pairs, others_too)]
    return [pair for pair in rows if pair is not None]


def is_true(claim):
    """Whether a claim holds, as the search of borders tells."""
    word, text, room = claim[0], claim[1], claim[-1] if claim[0] == "unlike" else claim[2]
    if word in ("closes", "at least", "not"):
        cost, legs = least(text, room, claim[3]), lengths(sides_of(room), claim[3])
        return {"closes": lambda: cost is not None and cost <= claim[4],
                "at least": lambda: legs is not None and (cost is None or cost >= claim[4]),
                "not": lambda: legs is not None and cost is None}[word]()
    sizes = list(itertools.product(range(9 + search(text).many), repeat=len(letters_of(room))))
    if word == "unlike":
        return any(least(text, room, row) != least(claim[2], room, row) for row in sizes)
    fails = any(lengths(sides_of(room), row) is not None and least(text, room, row) is None for row in sizes)
    return fails == (word == "fails")


class Told(unittest.TestCase):

    def agrees(self, claim, paper):
        told = accepts(claim, paper)
        self.assertIs(type(told), bool)
        self.assertIs(told, reads(claim, paper), (claim, paper))
        return told


class PapersPutOtherwise(Told):

    def test_papers_of_the_package(self):
        words = []
        for claim, paper in some_papers(301, 60) + unlike_papers(303, 30):
            self.assertIs(self.agrees(claim, paper), True)
            self.assertTrue(is_true(claim), claim)
            words.append(claim[0])
        for word in ("closes", "at least", "not", "always", "fails", "unlike"):
            self.assertGreater(words.count(word), 8, word)

    def test_papers_with_one_place_put_otherwise(self):
        source = samples.seeded(311)
        told = []
        for claim, paper in some_papers(305, 26, most_sides=3) + unlike_papers(307, 16):
            many = 3 if claim[0] == "always" else 14
            told += [self.agrees(claim, other) for other in put_otherwise(paper, source, many)]
        self.assertGreater(told.count(True), 200)
        self.assertGreater(told.count(False), 3000)

    def test_claims_with_one_place_put_otherwise(self):
        source = samples.seeded(312)
        true = 0
        for claim, paper in some_papers(309, 40, most_sides=3) + unlike_papers(310, 16):
            for other in put_otherwise(claim, source, 4):
                if self.agrees(other, paper):
                    self.assertTrue(is_true(other), other)
                    true += 1
        self.assertGreater(true, 20)

    def test_papers_for_other_claims(self):
        rows = some_papers(313, 8, most_sides=2, letters="x") + unlike_papers(315, 4)
        for (claim, _), (_, paper) in itertools.product(rows, rows):
            if self.agrees(claim, paper):
                self.assertTrue(is_true(claim))

    def test_papers_with_several_places_put_otherwise(self):
        source = samples.seeded(317)
        accepted = 0
        for claim, paper in some_papers(319, 10, most_sides=2) + unlike_papers(321, 6):
            if claim[0] != "always":
                for other in put_otherwise(paper, source, 3):
                    for another in put_otherwise(other, source, 1):
                        accepted += self.agrees(claim, another)
        self.assertGreater(accepted, 20)


class Closes(Told):

    def told(self, border, cost=0, sizes=(3, 0), text=SQUARE, room=OBLONG):
        return self.agrees(("closes", text, room, sizes, cost), border)

    def test_borders(self):
        self.assertIs(self.told(STILL), True)
        self.assertIs(self.told(("1>", STILL[1])), False)
        self.assertIs(self.told(STILL, sizes=(0, 3)), False)
        self.assertIs(self.told(("0>", STILL[1][1:] + STILL[1][:1]), sizes=(0, 3)), True)
        self.assertIs(self.told(("0>", STILL[1][:3])), False)
        self.assertIs(self.told(("0>", STILL[1] + STILL[1][:1])), False)
        self.assertIs(self.told(("0>", STILL[1], ())), False)
        self.assertIs(self.told(("0>",)), False)

    def test_the_cost_or_more_may_be_told(self):
        border = ("0>", (((), 0),) * 2)
        for cost in (0, 1, 2, 3, 1000, 10 ** 6, GREAT):
            self.assertIs(self.told(border, cost, (0,), FREE, "x out, x out"), cost >= 2)

    def test_integers_side_by_side(self):
        for filling in ((1, 2), (2, 1), (1, 1, 1), (3,)):
            self.assertIs(self.told((STILL[0], ((filling, 0),) + STILL[1][1:])), True)
        for filling in ((1, 1), (1, 1, 1, 1), (3, 0), (0, 3), (4, -1), (), (-3, 6), 3, "3", ("3",), (None, 3), [3],
                        (Claims(),), Claims()):
            self.assertIs(self.told((STILL[0], ((filling, 0),) + STILL[1][1:])), False)

    def test_many_steps(self):
        text = "signs a\npiece gap 0> 0> long 1 cost 9\ncorner c out 0> 0> cost 9"
        for many in (199, 200, 201, 5000):
            border = ("0>", ((("gap", 1) * many, 0),))
            cost = 9 * many + 9
            self.assertIs(self.told(border, cost, (2 * many,), text, "x out"), True)
            self.assertIs(self.told(border, cost - 1, (2 * many,), text, "x out"), False)
            self.assertIs(self.told(border, cost, (2 * many + 1,), text, "x out"), False)

    def test_costs_greater_than_those_of_any_least_border(self):
        text = "signs a\npiece gap 0> 0> long 1 cost 9\ncorner c out 0> 0> cost 0"
        many = 120000
        self.assertIs(accepts(("closes", text, "x out", (many,), 9 * many), ("0>", ((("gap",) * many, 0),))), True)
        self.assertIs(accepts(("closes", text, "x out", (many,), 9 * many - 1), ("0>", ((("gap",) * many, 0),))), False)

    def test_sizes_of_any_greatness(self):
        for size in (10 ** 30, 10 ** 30 + 1, 10 ** 31, 10 ** 31 + 2, GREAT, GREAT - 1):
            self.assertIs(self.told(("0>", (((size,), 0),)), GREAT, (size,), ONE, "x out"), True)
            self.assertIs(self.told(("0>", (((size - 1, 1), 0),)), 0, (size,), ONE, "x out"), True)
            self.assertIs(self.told(("0>", (((size - 1,), 0),)), 0, (size,), ONE, "x out"), False)
            self.assertIs(self.told(("0>", (((size + 9,), 0),)), 0, (size,), ONE, "x+9 out"), True)
            self.assertIs(self.told(("0>", (((size,), 0),)), 0, (size,), SQUARE, "x out"), size % 3 == 0)

    def test_pieces_go_from_their_states(self):
        text = DOCUMENT + "\ncorner back out 1> 0> cost 0"
        self.assertIs(self.told(("0>", ((("gap",), 3),)), 5, (2,), text, "x out"), True)
        self.assertIs(self.told(("0>", ((("gap", 1), 3),)), 5, (3,), text, "x out"), False)
        self.assertIs(self.told(("0>", (((1, "gap"), 3),)), 5, (3,), text, "x out"), False)
        self.assertIs(self.told(("0>", (((3, "gap", 3), 3),)), 5, (8,), text, "x out"), True)
        self.assertIs(self.told(("0>", ((("gaq",), 3),)), 5, (2,), text, "x out"), False)
        self.assertIs(self.told(("0>", ((("turn",), 3),)), 5, (2,), text, "x out"), False)

    def test_running_back(self):
        text = "signs abcd\ncorner c in 3< 1< cost 2"
        self.assertIs(self.told(("1<", (((2,), 0),)), 2, (2,), text, "x in"), True)
        self.assertIs(self.told(("1<", (((6,), 0),)), 2, (6,), text, "x in"), True)
        self.assertIs(self.told(("1<", (((3,), 0),)), 2, (3,), text, "x in"), False)
        self.assertIs(self.told(("1>", (((2,), 0),)), 2, (2,), text, "x in"), False)

    def test_turns_and_indexes_of_corners(self):
        text = "signs a\ncorner c out 0> 0> cost 1\ncorner c in 0> 0> cost 1\ncorner d out 0> 0> cost 2"
        for index in (-3, -2, -1, 0, 1, 2, 3, GREAT, None, "c", "0", (0,)):
            self.assertIs(self.told(("0>", (((), index),)), 2, (0,), text, "x out"), index in (0, 2))
            self.assertIs(self.told(("0>", (((), index),)), 2, (0,), text, "x in"), index == 1)
            self.assertIs(self.told(("0>", (((), index),)), 1, (0,), text, "x out"), index == 0)

    def test_no_room(self):
        for paper in (("0>", ()), ("0>", (((), 0),)), ("0>", (((1,), 0),)), None, ()):
            self.assertIs(self.told(paper, 9, (0,), ONE, "x-1 out"), False)
            self.assertIs(self.told(paper, 9, (8,), ONE, "x-9 out"), False)
        self.assertIs(self.told(("0>", (((), 0),)), 9, (9,), ONE, "x-9 out"), True)

    def test_the_last_corner_leads_to_the_begin(self):
        text = "signs ab\ncorner c out 0> 1> cost 0\ncorner d out 1> 0> cost 0"
        self.assertIs(self.told(("0>", (((), 0),)), 0, (0,), text, "x out"), False)
        self.assertIs(self.told(("0>", (((), 0), ((), 1))), 0, (0,), text, "x out, x out"), True)
        self.assertIs(self.told(("1>", (((), 1), ((), 0))), 0, (0,), text, "x out, x out"), True)
        self.assertIs(self.told(("1>", (((), 0), ((), 1))), 0, (0,), text, "x out, x out"), False)


class AtLeast(Told):

    # Two states, one side: 0> leads to itself at 3, 0< to 0> at 1.
    TEXT = "signs a\ncorner c out 0> 0> cost 3\ncorner d out 0< 0> cost 1"

    def told(self, paper, cost=3, text=TEXT, room="x out", sizes=(4,)):
        return self.agrees(("at least", text, room, sizes, cost), paper)

    def test_price_lists(self):
        back, on = ((0, None), (None, 1)), ((None, 0), (None, 3))
        self.assertIs(self.told((back, on)), True)
        self.assertIs(self.told((on, back)), False)
        self.assertIs(self.told((back,)), False)
        self.assertIs(self.told((back, on, on)), False)
        self.assertIs(self.told([back, on]), False)
        self.assertIs(self.told(()), False)

    def test_the_begin_has_0_or_less_in_the_first_row(self):
        for price in (-GREAT, -5, -1, 0, 1, 2, None, "0", (0,)):
            right = type(price) is int and price <= 0
            self.assertIs(self.told((((0, None), (None, 1)), ((None, price), (None, -GREAT))), 0), False)
            self.assertIs(self.told((((price, None), (None, -GREAT)), ((None, 0), (None, 3)))), right)

    def test_the_begin_has_the_cost_or_more_or_none_in_the_last_row(self):
        back = ((0, None), (None, 1))
        for price in (-1, 0, 2, 3, 4, None):
            told = self.told((back, ((None, 0), (None, price))), 3)
            self.assertIs(told, price == 3)
        for cost in (0, 1, 2, 3, 4, 5, GREAT):
            self.assertIs(self.told((back, ((None, 0), (None, 3))), cost), cost <= 3)
            for price in (0, 2, 3, 4, 10, GREAT, None):
                # Nothing leads to 0<, so any price may stand there that is great enough.
                told = self.told((((0, None), (price, 1)), ((None, 0), (None, 3))), cost)
                self.assertIs(told, cost <= 3 and (price is None or price >= cost))

    def test_rows_of_each_list(self):
        back, on = ((0, None), (None, 1)), ((None, 0), (None, 3))
        for wrong in (on + on[1:], on[:1], (), on[1:], [on[0], on[1]], ((None, 0, None), (None, 3)), ((None, 0), (3,)),
                      ((0,), (3,)), ([None, 0], (None, 3)), ((None, 0), [None, 3]), ((None, 0), (None, "3")), None, 3,
                      (None, None), ((None, 0), (None, (3,))), ((None, 0), None), ((None, 0), (None, Claims())),
                      ((Claims(), 0), (None, 3)), ((None, Claims()), (None, 3)), Claims()):
            self.assertIs(self.told((back, wrong)), False)

    def test_other_states_may_have_prices_at_first(self):
        on = ((None, 0), (None, 3))
        for price in (-1, 0, 1, 5, GREAT, -GREAT):
            for behind in (-GREAT, -1, 0, 1, 2, 3, 4, None):
                told = self.told((((0, price), (None, behind)), on))
                self.assertIs(told, behind is not None and behind <= min(1, price + 3))

    def test_prices_that_are_lower_than_they_might_be(self):
        text = "signs a\ncorner c out 0> 0> cost 3"
        for middle in range(-3, 6):
            for last in range(-3, 9):
                paper = (((0, None), (None, None), (None, None)), ((None, 0), (None, middle), (None, last)))
                for cost in (4, 5, 6, 7):
                    told = self.told(paper, cost, text, "x out, x out")
                    self.assertIs(told, middle <= 3 and last <= middle + 3 and last >= cost)

    def test_the_least_of_several_corners_and_fillings(self):
        text = "signs a\npiece p 0> 0> long 2 cost 0\ncorner c out 0> 0> cost 5\ncorner d out 0> 0> cost 2"
        for price in range(6):
            paper = (((0, None), (None, None)), ((None, 0), (None, price)))
            self.assertIs(self.told(paper, price, text), price <= 2)

    def test_there_is_a_room(self):
        on, back = ((None, 0), (None, 0)), ((0, None), (None, 0))
        self.assertIs(self.told((back, on), 0, room="x-4 out"), True)
        self.assertIs(self.told((back, on), 0, room="x-5 out"), False)
        self.assertIs(self.told((((0, None),), ((None, 0),)), 0, room="x-5 out"), False)

    def test_cost_0_needs_price_lists_too(self):
        self.assertIs(self.told((), 0), False)
        self.assertIs(self.told((((0, None), (None, 1)), ((None, 0), (None, 3))), 0), True)
        self.assertIs(self.told((((0, None), (None, 1)), ((None, 0), (None, -1))), 0), False)

    def test_sizes_of_any_greatness(self):
        text = "signs abc\ncorner c out 0> 0> cost 1\ncorner d out 1> 0> cost 4\npiece p 0> 0< long 1 cost 0"
        for size in (10 ** 30 + 2, GREAT - 2, GREAT - 1, GREAT):
            rows = [tuple(search(text).states), search(text).least(sides_of("x out"), (size % 3 + 90,))]
            first = {state: tuple(0 if other == state else None for other in rows[0]) for state in rows[0]}
            last = {state: search(text).least_ends(size % 3 + 90, state) for state in rows[0]}
            lists = tuple((first[state], tuple(-9 if other == "0>" and last[state] else None for other in rows[0]))
                          for state in rows[0])
            self.assertIs(self.told(lists, 0, text, "x out", (size,)), False)
            cost = rows[1]
            if cost is not None:
                good = tuple((first[state], tuple(cost if other == "0>" else None for other in rows[0]))
                             for state in rows[0])
                self.agrees(("at least", text, "x out", (size,), cost), good)


class Not(Told):

    def test_price_lists(self):
        text = "signs ab\ncorner c out 0> 0> cost 0"
        first, second = (paper_of_floor(Borders(text), Room("x out"), (size,)) for size in (1, 2))
        self.assertEqual([first[0][0], second[0][0]], ["not", "at least"])
        for sizes in ((0,), (1,), (2,), (3,), (GREAT,), (GREAT + 1,)):
            for paper in (first[1], second[1]):
                told = self.agrees(("not", text, "x out", sizes), paper)
                self.assertIs(told, sizes[0] % 2 == 1 and paper == first[1])
        # Where there is no border, none costs less than anything.
        for cost in (0, 1, GREAT):
            self.assertIs(self.agrees(("at least", text, "x out", (1,), cost), first[1]), True)

    def test_the_begin_has_none_in_the_last_rows(self):
        text = "signs a"
        for last in (None, 0, GREAT):
            paper = (((0, None), (last, None)), ((None, 0), (None, None)))
            self.assertIs(self.agrees(("not", text, "x out", (0,)), paper), last is None)
            self.assertIs(self.agrees(("at least", text, "x out", (0,), 0), paper), True)

    def test_no_room(self):
        paper = (((0, None), (None, None)), ((None, 0), (None, None)))
        self.assertIs(self.agrees(("not", "signs a", "x-1 out", (0,)), paper), False)
        self.assertIs(self.agrees(("not", "signs a", "x-1 out", (1,)), paper), True)


class Always(Told):

    CLAIM = ("always", ONE, "x-8 out")

    def paper(self, sizes):
        return tuple(((size,), ("0>", (((size - 8,) if size > 8 else (), 0),))) for size in sizes)

    def test_just_the_sizes(self):
        self.assertIs(self.agrees(self.CLAIM, self.paper((8, 9))), True)
        self.assertIs(self.agrees(self.CLAIM, self.paper((9, 8))), True)
        for sizes in ((8,), (9,), (8, 8), (8, 9, 10), (8, 9, 9), (), (9, 10), (7, 8, 9), (8, 10)):
            self.assertIs(self.agrees(self.CLAIM, self.paper(sizes)), False, sizes)

    def test_each_with_a_border_of_these_sizes(self):
        for border in (("0>", (((2,), 0),)), ("0>", (((), 0),)), ("0<", (((1,), 0),)), ("0>", (((1,), 1),)), None, ()):
            self.assertIs(self.agrees(self.CLAIM, self.paper((8,)) + (((9,), border),)), False)
        self.assertIs(self.agrees(self.CLAIM, self.paper((8,)) + (((9,), ("0>", (((1,), 0),))),)), True)

    def test_rows_and_pairs(self):
        one, two = self.paper((8, 9))
        for paper in ([one, two], (list(one), two), (one, two + (None,)), (one, two[:1]), (([8], one[1]), two),
                      (one, None), ((8, one[1]), two), (one, ("9", two[1])), (one, ((9, 9), two[1])),
                      (one, (Claims(), two[1])), (one, (([],), two[1])), (one, ((None,), two[1])),
                      (one, ((-9,), two[1])), Claims(), {8: one}):
            self.assertIs(self.agrees(self.CLAIM, paper), False)

    def test_numbers_below_9_and_the_length_of_the_motif(self):
        for many in range(1, 6):
            text = samples.fillers(many) + samples.keeping(many)
            for plus in (-9, -4, 0, 9):
                room = f"x{plus:+d} out, x out" if plus else "x out, x out"
                claim, paper = paper_of_always(Borders(text), Room(room))
                self.assertEqual([claim[0]] + sorted(sizes[0] for sizes, border in paper),
                                 ["always"] + list(range(max(0, -plus), 9 + many)))
                self.assertIs(self.agrees(claim, paper), True)
                self.assertIs(self.agrees(claim, paper[1:]), False)
                self.assertIs(self.agrees(claim, paper[:-1]), False)
                self.assertIs(self.agrees(claim, paper[:-1] + paper[:1]), len(paper) == 1)
                more = (9 + many,) if len(paper) == 1 else paper[0][0]
                self.assertIs(self.agrees(claim, paper + ((more, paper[0][1]),)), False)

    def test_a_table_that_would_be_too_great(self):
        text = samples.fillers(5, 9) + samples.keeping(5)
        claim, paper = paper_of_always(Borders(text), Room("x out, y out, z+9 out"))
        self.assertEqual([claim[0], len(paper)], ["always", 14 ** 3])
        self.assertIs(accepts(claim, paper), True)
        self.assertIs(accepts(claim, paper[:-1]), False)
        self.assertIs(accepts(claim, paper[1:] + paper[1:2]), False)


class Fails(Told):

    def test_sizes_and_price_lists(self):
        text = "signs ab\ncorner c out 0> 0> cost 0"
        claim, (sizes, prices) = paper_of_always(Borders(text), Room("x out"))
        self.assertEqual([claim, sizes], [("fails", text, "x out"), (1,)])
        for other in ((1,), (3,), (GREAT + 1,)):
            self.assertIs(self.agrees(claim, (other, prices)), True)
        for other in ((0,), (2,), (GREAT,), (-1,), (1, 1), (), 1, [1], None, ("1",), Claims(), (Claims(),)):
            self.assertIs(self.agrees(claim, (other, prices)), False)
        for paper in ((sizes,), (sizes, prices, ()), [sizes, prices], prices, (prices, sizes), None,
                      ((sizes, prices),)):
            self.assertIs(self.agrees(claim, paper), False)

    def test_there_is_a_room(self):
        prices = (((0, None), (None, None)), ((None, 0), (None, None)))
        for size in range(12):
            self.assertIs(self.agrees(("fails", "signs a", "x-9 out"), ((size,), prices)), size >= 9)


class Unlike(Told):

    DEAR = "signs a\ncorner c out 0> 0> cost 3"
    CHEAP = "signs a\ncorner c out 0> 0> cost 1"
    NONE = "signs a"

    def lists(self, last):
        return (((0, None), (None, None)), ((None, 0), (None, last)))

    def told(self, one, other, dear, border_length=(), sizes=(0,), last=3, room="x out"):
        border = ("0>", ((border_length, 0),))
        return self.agrees(("unlike", one, other, room), (sizes, dear, border, self.lists(last)))

    def test_which_one_is_dearer(self):
        self.assertIs(self.told(self.DEAR, self.CHEAP, 0), True)
        self.assertIs(self.told(self.DEAR, self.CHEAP, 1), False)
        self.assertIs(self.told(self.CHEAP, self.DEAR, 1), True)
        self.assertIs(self.told(self.CHEAP, self.DEAR, 0), False)
        for dear in (-1, 2, None, "0", (0,), Claims(), GREAT):
            self.assertIs(self.told(self.DEAR, self.CHEAP, dear), False)

    def test_the_dearer_one_costs_more(self):
        for last in (0, 1, 2, 3, 4, None):
            self.assertIs(self.told(self.DEAR, self.CHEAP, 0, last=last), last in (2, 3))
        self.assertIs(self.told(self.CHEAP, self.CHEAP, 0, last=1), False)
        self.assertIs(self.told(self.CHEAP, self.CHEAP, 0, last=2), False)
        self.assertIs(self.told(self.DEAR, self.CHEAP.replace("1", "2"), 0, last=3), True)
        self.assertIs(self.told(self.DEAR, self.CHEAP.replace("1", "3"), 0, last=3), False)

    def test_the_dearer_one_may_have_none(self):
        self.assertIs(self.told(self.NONE, self.CHEAP, 0, last=None), True)
        self.assertIs(self.told(self.CHEAP, self.NONE, 1, last=None), True)
        self.assertIs(self.told(self.CHEAP, self.NONE, 0, last=None), False)
        self.assertIs(self.told(self.NONE, self.NONE, 0, last=None), False)

    def test_a_border_of_these_sizes(self):
        self.assertIs(self.told(self.DEAR, self.CHEAP, 0, (4,), (4,)), True)
        self.assertIs(self.told(self.DEAR, self.CHEAP, 0, (4,), (3,)), False)
        self.assertIs(self.told(self.DEAR, self.CHEAP, 0, (GREAT,), (GREAT,)), True)
        self.assertIs(self.told(self.DEAR, self.CHEAP, 0, (), (8,), room="x-9 out"), False)
        self.assertIs(self.told(self.DEAR, self.CHEAP, 0, (), (9,), room="x-9 out"), True)
        for sizes in ((), (0, 0), [0], 0, None, ("0",), (-1,), Claims(), (None,)):
            self.assertIs(self.told(self.DEAR, self.CHEAP, 0, sizes=sizes), False)

    def test_motifs_of_other_lengths(self):
        one, other = "signs ab\ncorner c out 0> 0> cost 0", "signs abc\ncorner c out 0> 0> cost 0"
        claim, paper = paper_of_unlike(Borders(one), Borders(other), Room("x out"))
        self.assertEqual([paper[0], paper[1], len(paper[3])], [(2,), 1, 6])
        self.assertIs(self.agrees(claim, paper), True)
        self.assertIs(self.agrees(("unlike", other, one, "x out"), paper), False)
        self.assertIs(self.agrees(("unlike", other, one, "x out"), (paper[0], 0) + paper[2:]), True)

    def test_four_parts(self):
        claim, paper = paper_of_unlike(Borders(self.DEAR), Borders(self.CHEAP), Room("x out"))
        for other in (paper[:3], paper + (None,), list(paper), (paper,), paper[1:], None):
            self.assertIs(self.agrees(claim, other), False)


class Claimed(Told):
    """Values that are no claims."""

    def rows(self):
        return some_papers(331, 6, most_sides=2) + unlike_papers(333, 4)

    def test_words(self):
        for claim, paper in self.rows():
            for word in ("", "close", "Closes", "closes ", "at  least", "at most", "alike", "nots", b"not", None, 0, (),
                         ["not"], Claims(), ("closes",), {}, object()):
                self.assertIs(self.agrees((word,) + claim[1:], paper), False)

    def test_numbers_of_parts(self):
        for claim, paper in self.rows():
            for other in (claim[:-1], claim + (0,), claim + (None,), claim[:1], claim[:2], (), (claim,), list(claim),
                          claim[1:], claim + claim[-1:], "".join(map(str, claim))):
                self.assertIs(self.agrees(other, paper), False)

    def test_values_of_other_kinds(self):
        for claim, paper in self.rows():
            for value in others() + [0, 1, "", "closes", (), ("closes",), nested(10), Borders(ONE), Room("x out")]:
                self.assertIs(self.agrees(value, paper), False)
            for at in range(1, len(claim)):
                more = [Borders(ONE), Room("x out"), ONE + "\n", "x out,y out", nested(9)]
                for value in others_than_strings() + more:
                    if not (type(value) is int and type(claim[at]) is int):
                        self.assertIs(self.agrees(claim[:at] + (value,) + claim[at + 1:], paper), False)

    def test_papers_of_other_kinds(self):
        for claim, paper in self.rows():
            for value in others_than_tuples() + [(), (None,), nested(10), ((), ()), (("0>",),), Borders(ONE)]:
                self.assertIs(self.agrees(claim, value), False)

    def test_truths_are_no_integers(self):
        lists = (((0, None), (None, 0)), ((None, 0), (None, 0)))
        border = ("0>", (((), 0),))
        for truth in (True, False):
            self.assertIs(accepts(("closes", ONE, "x out", (0,), truth), border), False)
            self.assertIs(accepts(("at least", ONE, "x out", (0,), truth), lists), False)
            self.assertIs(accepts(("closes", ONE, "x out", (truth,), 0), border), False)
            self.assertIs(accepts(("at least", ONE, "x out", (truth,), 0), lists), False)
            self.assertIs(accepts(("not", "signs a", "x out", (truth,)), lists), False)

    def test_costs(self):
        border = ("0>", (((), 0),))
        for cost in (-1, -GREAT, None, "0", (0,), [0], Claims(), object(), ""):
            self.assertIs(self.agrees(("closes", ONE, "x out", (0,), cost), border), False)
            self.assertIs(self.agrees(("at least", ONE, "x out", (0,), cost), (((0, None),) * 2,) * 2), False)

    def test_by_name(self):
        for claim, paper in self.rows():
            self.assertIs(accepts(paper=paper, claim=claim), True)
            self.assertIs(accepts(claim, paper=None), False)

    def test_nothing_is_changed(self):
        for claim, paper in self.rows():
            told = repr((claim, paper))
            accepts(claim, paper)
            accepts(claim, list(paper))
            self.assertEqual(repr((claim, paper)), told)
            self.assertIs(accepts(claim, paper), True)


class Known(Told):

    def test_corners_that_keep_all_phases(self):
        for sizes in itertools.product(range(5), repeat=2):
            claim, paper = paper_of_floor(Borders(KEEP), Room(OBLONG), sizes)
            self.assertEqual(claim[0], "at least" if 2 * sum(sizes) % 3 == 0 else "not")
            self.assertIs(self.agrees(claim, paper), True)
            self.assertIs(least_cost(Borders(KEEP), Room(OBLONG), sizes) is None, claim[0] == "not")

    def test_a_motif_alone(self):
        claim, paper = paper_of_always(Borders(PLAIN), Room(OBLONG))
        self.assertEqual([claim[0], paper[0]], ["fails", failing(Borders(PLAIN), Room(OBLONG))])
        self.assertIs(self.agrees(claim, paper), True)
        self.assertEqual({price for told in paper[1] for row in told[1:] for price in row}, {None})

    def test_late_calendars(self):
        for size in (40, 60, 76, 80, 90, 95):
            for claim, paper in papers_for(samples.LATE, "x out, x-9 out", (size,)):
                self.assertIs(self.agrees(claim, paper), True)
