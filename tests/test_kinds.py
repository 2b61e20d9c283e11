import unittest

from cornerways.kinds import (is_among, is_any_integer, is_claimed_cost, is_integer, is_integer_from, is_row, is_word,
                              is_worded, number_of)
from values import Claims, others_than_strings


class Kinds(unittest.TestCase):

    def test_integers(self):
        self.assertEqual([is_integer(value, -2, 3) for value in (-3, -2, 0, 1, 3, 4)],
                         [False, True, True, True, True, False])
        for value in (True, False, None, "1", (1,), [1], Claims()):
            self.assertIs(is_integer(value, -2, 3), False)

    def test_integers_without_bounds(self):
        for value in (-10 ** 39, -2, 0, 1, 10 ** 39):
            self.assertIs(is_any_integer(value), True)
            self.assertIs(is_integer_from(value, 0), value >= 0)
        for value in (True, False, None, "1", (1,), [1], Claims()):
            self.assertIs(is_any_integer(value), False)
            self.assertIs(is_integer_from(value, -9), False)

    def test_costs_of_claims(self):
        self.assertEqual([is_claimed_cost(value) for value in (-1, 0, 1000, 1001, True, None)],
                         [False, True, True, False, False, False])

    def test_rows(self):
        self.assertEqual([is_row(value, 2) for value in ((), (1,), (1, 2), (1, 2, 3), [1, 2], "ab", None, Claims())],
                         [False, False, True, False, False, False, False, False])

    def test_words_ahead(self):
        forms = (("one", 1), ("two", 2))
        self.assertEqual([is_worded(value, forms) for value in (("one",), ("two", None), ("one", 1), ("two",), (), "one",
                                                                ["one"], (1,), (Claims(),), Claims(), None)],
                         [True, True] + [False] * 9)

    def test_words(self):
        self.assertEqual([is_word(text) for text in ("a", "abcdefgh", "", "abcdefghi", "A", "a1", "a b")],
                         [True, True, False, False, False, False, False])
        for value in others_than_strings() + [["a"], ("a",)]:
            self.assertIs(is_word(value), False)

    def test_strings_among_others(self):
        self.assertEqual([is_among(text, ("a", "b")) for text in ("a", "b", "", "ab")], [True, True, False, False])
        for value in others_than_strings():
            self.assertIs(is_among(value, ("a", "b")), False)

    def test_digits(self):
        self.assertEqual([number_of(text, 1, 8) for text in ("0", "1", "8", "9", "", "12", "a", "-1", " ")],
                         [None, 1, 8, None, None, None, None, None, None])
