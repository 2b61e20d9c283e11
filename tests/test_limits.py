import unittest

from cornerways import limits


class Limits(unittest.TestCase):

    def test_each_constant_has_the_value_of_the_document(self):
        told = {name: getattr(limits, name) for name in dir(limits) if name.startswith("MOST_")}
        self.assertEqual(told, {
            "MOST_SIGNS": 5, "MOST_PIECES": 8, "MOST_CORNERS": 12, "MOST_NAMES": 4, "MOST_LONG": 6, "MOST_COST": 9,
            "MOST_SIDES": 12, "MOST_PLUS": 9, "MOST_SIZE": 10 ** 30, "MOST_TABLE": 900, "MOST_WAYS": 60,
            "MOST_LINES": 4})

    def test_each_constant_is_an_integer(self):
        for name in dir(limits):
            if name.startswith("MOST_"):
                self.assertIs(type(getattr(limits, name)), int)
