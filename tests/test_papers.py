"""Papers: what they claim, and that the checker accepts them."""

import itertools
import unittest

import samples
from cornerways.checker import accepts
from cornerways.closing import least_border, least_cost
from cornerways.comparing import alike, parting
from cornerways.errors import InvalidSizes, NoAnswer, TooMany
from cornerways.motifs import Borders
from cornerways.papers import paper_of_always, paper_of_cost, paper_of_floor, paper_of_unlike
from cornerways.rooms import Room
from cornerways.sizes import failing
from reading import reads
from samples import DOCUMENT, FREE, OBLONG, PLAIN, SQUARE, kind_pairs, some_pairs
from search import all_sizes, letters_of, lengths, search, sides_of, table_size

TOP = 10 ** 30


class Papers(unittest.TestCase):

    def proved(self, told, claim, small=True):
        """The paper of a claim, which the checker accepts, and a reading of the document, too."""
        self.assertEqual(told[0], claim)
        self.assertEqual([type(told), len(told), type(told[0])], [tuple, 2, tuple])
        self.assertIs(accepts(told[0], told[1]), True, claim)
        if small:
            self.assertIs(reads(told[0], told[1]), True, claim)
        return told[1]


class Costs(Papers):

    def agrees(self, text, room, sizes):
        told = paper_of_cost(Borders(text), Room(room), sizes)
        cost = search(text).least(sides_of(room), sizes)
        if cost is None:
            self.assertIsNone(told)
            return None
        self.proved(told, ("closes", text, room, sizes, cost))
        return cost

    def test_the_least_cost_or_none(self):
        costs = []
        for text, room in kind_pairs(401, 40) + some_pairs(402, 20):
            costs += [self.agrees(text, room, sizes) for sizes in all_sizes(len(letters_of(room)), 4)]
        self.assertGreater(costs.count(None), 100)
        self.assertGreater(len(set(costs)), 12)

    def test_the_greatest_sizes(self):
        for text, room in kind_pairs(403, 30, most_plus=9) + [(samples.LATE, "x+9 out, y-9 out, x out")]:
            for less in itertools.product(range(2), repeat=len(letters_of(room))):
                sizes = tuple(TOP - number for number in less)
                told = paper_of_cost(Borders(text), Room(room), sizes)
                cost = least_cost(Borders(text), Room(room), sizes)
                if cost is None:
                    self.assertIsNone(told)
                else:
                    self.proved(told, ("closes", text, room, sizes, cost))

    def test_the_border_is_one_of_the_least_ones(self):
        told = paper_of_cost(Borders(SQUARE), Room(OBLONG), (3, 0))
        border = least_border(Borders(SQUARE), Room(OBLONG), (3, 0))
        self.assertEqual(told, (("closes", SQUARE, OBLONG, (3, 0), 0), border))


class Floors(Papers):

    def agrees(self, text, room, sizes):
        told = paper_of_floor(Borders(text), Room(room), sizes)
        cost = search(text).least(sides_of(room), sizes)
        if lengths(sides_of(room), sizes) is None:
            self.assertIsNone(told)
        elif cost is None:
            self.proved(told, ("not", text, room, sizes))
            # That there is none is shown for any cost, too.
            self.assertIs(accepts(("at least", text, room, sizes, 10 ** 39), told[1]), True)
        else:
            self.proved(told, ("at least", text, room, sizes, cost))
            self.assertIs(accepts(("at least", text, room, sizes, cost + 1), told[1]), False)
            self.assertIs(accepts(("not", text, room, sizes), told[1]), False)
        return "none" if told is None else told[0][0]

    def test_the_least_cost_or_none(self):
        words = []
        for text, room in kind_pairs(411, 30) + some_pairs(412, 20):
            words += [self.agrees(text, room, sizes) for sizes in all_sizes(len(letters_of(room)), 4)]
        for word in ("none", "not", "at least"):
            self.assertGreater(words.count(word), 100, word)

    def test_the_greatest_sizes(self):
        words = []
        for text, room in kind_pairs(413, 30, most_plus=9) + [(samples.LATE, "x+9 out, y-9 out, x out")]:
            for less in itertools.product(range(2), repeat=len(letters_of(room))):
                sizes = tuple(TOP - number for number in less)
                cost = least_cost(Borders(text), Room(room), sizes)
                claim = ("not", text, room, sizes) if cost is None else ("at least", text, room, sizes, cost)
                self.proved(paper_of_floor(Borders(text), Room(room), sizes), claim)
                words.append(claim[0])
        self.assertEqual(set(words), {"not", "at least"})

    def test_the_longest_room(self):
        room = ", ".join(f"{letter}{plus} {turn}" for letter, plus, turn in zip(
            "xyzxyzzyxxyz", ("", "+9", "-9") * 4, ("out", "in", "out", "out") * 3))
        keeping = samples.keeping(5)
        for text in (DOCUMENT, samples.LATE, "signs abcde" + keeping + keeping.replace("out", "in")):
            for sizes in ((9, 9, 9), (10, 12, 40), (TOP, TOP - 1, 9)):
                for function in (paper_of_cost, paper_of_floor):
                    told = function(Borders(text), Room(room), sizes)
                    if told is not None:
                        self.proved(told, told[0])


class AllSizes(Papers):

    def agrees(self, text, room):
        told = paper_of_always(Borders(text), Room(room))
        sizes = failing(Borders(text), Room(room))
        if sizes is None:
            paper = self.proved(told, ("always", text, room))
            self.assertEqual(len(paper), self.many(text, room))
        else:
            paper = self.proved(told, ("fails", text, room))
            self.assertEqual(paper[0], sizes)
        return told[0][0]

    def many(self, text, room):
        rows = itertools.product(range(9 + search(text).many), repeat=len(letters_of(room)))
        return len([sizes for sizes in rows if lengths(sides_of(room), sizes) is not None])

    def test_always_and_fails(self):
        words = [self.agrees(text, room) for text, room in kind_pairs(421, 60, most_plus=9) + some_pairs(422, 40)]
        words += [self.agrees(samples.fillers(many) + samples.keeping(many) + more, room) for many in range(1, 6)
                  for more in ("", "\ncorner q in 0> 0> cost 3") for room in (
                      "x out", "x-9 out, x+9 out", "y+5 out, z-1 out, y out", "x out, x-3 in", OBLONG)]
        self.assertGreater(words.count("always"), 30)
        self.assertGreater(words.count("fails"), 30)

    def test_tables_that_are_too_great(self):
        text = samples.fillers(5, 9) + samples.keeping(5)
        for room in ("x out, y-2 out, z-1 out", "x-9 out, y-9 out, z-9 out", "x+9 out, z-4 out, y-1 out, x-2 out"):
            self.assertGreater(table_size(text, room), 900)
            with self.assertRaises(TooMany):
                paper_of_unlike(Borders(text), Borders(text), Room(room))
            told = paper_of_always(Borders(text), Room(room))
            self.proved(told, ("always", text, room), small=False)
            self.assertEqual(len(told[1]), self.many(text, room))

    def test_no_corners(self):
        told = paper_of_always(Borders(PLAIN), Room("x-2 out, y+1 in"))
        self.assertEqual(self.proved(told, ("fails", PLAIN, "x-2 out, y+1 in"))[0], (2, 0))

    def test_one_phase(self):
        text = "signs a\ncorner c out 0> 0> cost 9"
        told = paper_of_always(Borders(text), Room("x-9 out, x out"))
        self.assertEqual(self.proved(told, ("always", text, "x-9 out, x out")), (
            ((9,), ("0>", (((), 0), ((9,), 0)))),))


class Unlikes(Papers):

    def agrees(self, one, other, room):
        told = paper_of_unlike(Borders(one), Borders(other), Room(room))
        sizes = parting(Borders(one), Borders(other), Room(room))
        if sizes is None:
            self.assertIsNone(told)
            self.assertIs(alike(Borders(one), Borders(other), Room(room)), True)
            return None
        paper = self.proved(told, ("unlike", one, other, room))
        self.assertEqual(paper[0], sizes)
        costs = [search(text).least(sides_of(room), sizes) for text in (one, other)]
        dear = [10 ** 6 if cost is None else cost for cost in costs]
        self.assertEqual(paper[1], 0 if dear[0] > dear[1] else 1)
        self.assertEqual([type(part) for part in paper], [tuple, int, tuple, tuple])
        return (paper[1], None in costs)

    def test_unlike_ones(self):
        told = []
        pairs = kind_pairs(431, 40, letters="xy", most_signs=2, most_pieces=1, most_plus=2)
        others = kind_pairs(432, 40, most_signs=2, most_pieces=1)
        for (one, room), (other, _) in zip(pairs, others):
            try:
                told += [self.agrees(one, other, room), self.agrees(other, one, room)]
            except TooMany:
                continue
        for kind in ((0, False), (0, True), (1, False), (1, True)):
            self.assertGreater(told.count(kind), 3, kind)

    def test_one_line_more(self):
        told = []
        for text, room in kind_pairs(433, 30, letters="x", most_plus=2):
            for line in ("corner c out 0> 0> cost 0", "piece w 0> 0> long 3 cost 1"):
                more = Borders(text).add(line).text if line not in text else text
                try:
                    told.append(self.agrees(text, more, room))
                except TooMany:
                    continue
        self.assertGreater(told.count((0, True)), 3)
        self.assertGreater(told.count(None), 3)

    def test_the_same_one(self):
        for text in (PLAIN, SQUARE, FREE, DOCUMENT):
            self.assertIs(self.agrees(text, text, "x out"), None)

    def test_too_many_sizes(self):
        five, four = Borders("signs abcde"), Borders("signs abcd")
        for one, other in ((five, four), (four, five)):
            with self.assertRaises(TooMany) as caught:
                paper_of_unlike(one, other, Room("x out, y-1 out, z-2 out"))
            self.assertEqual(caught.exception.limit, 900)
            self.assertIsInstance(caught.exception, NoAnswer)


class Calls(unittest.TestCase):

    def test_by_name(self):
        borders, other, room = Borders(FREE), Borders(SQUARE), Room(OBLONG)
        for function in (paper_of_cost, paper_of_floor):
            self.assertEqual(function(sizes=(1, 2), room=room, borders=borders), function(borders, room, (1, 2)))
        self.assertEqual(paper_of_always(room=room, borders=borders), paper_of_always(borders, room))
        self.assertEqual(paper_of_unlike(room=room, other=other, one=borders), paper_of_unlike(borders, other, room))

    def test_wrong_sizes(self):
        for function in (paper_of_cost, paper_of_floor):
            for sizes, index in (((1,), None), ((1, 1, 1), 2), ((1, -1), 1), ((True, 1), 0), ([1, 1], None),
                                 ((1, TOP + 1), 1)):
                with self.assertRaises(InvalidSizes) as caught:
                    function(Borders(PLAIN), Room("x-9 out, y out"), sizes)
                self.assertEqual(caught.exception.index, index)
