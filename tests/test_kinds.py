import unittest

from cornerways.kinds import is_among, is_integer, is_word, number_of
from values import Claims, others_than_strings


class Kinds(unittest.TestCase):

    def test_integers(self):
        self.assertEqual([is_integer(value, -2, 3) for value in (-3, -2, 0, 1, 3, 4)],
                         [False, True, True, True, True, False])
        for value in (True, False, None, "1", (1,), [1], Claims()):
            self.assertIs(is_integer(value, -2, 3), False)

    def test_words(self):
        self.assertEqual([is_word(text) for text in ("a", "abcdefgh", "", "abcdefghi", "A", "a1", "a b")],
                         [True, True, False, False, False, False, False])
        for value in others_than_strings() + [["a"], ("a",)]:
            self.assertIs(is_word(value), False)

    def test_strings_among_others(self):
        self.assertEqual([is_among(text, ("a", "b")) for text in ("a", "b", "", "ab")], [True, True, False, False])
        for value in others_than_strings():
            self.assertIs(is_among(value, ("a", "b")), False)

    def test_digits(self):
        self.assertEqual([number_of(text, 1, 8) for text in ("0", "1", "8", "9", "", "12", "a", "-1", " ")],
                         [None, 1, 8, None, None, None, None, None, None])
