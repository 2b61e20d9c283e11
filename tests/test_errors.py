import unittest

from cornerways import errors

BASES = {"BadValue": ValueError, "BadName": LookupError, "NoAnswer": ArithmeticError}

CLASSES = {
    "BadValue": {
        "InvalidText": ("given",), "InvalidLine": ("given",), "InvalidState": ("given",), "InvalidNumber": ("given",),
        "InvalidName": ("given",), "InvalidIndex": ("given",), "InvalidWish": ("given",), "InvalidClaim": ("given",),
        "NotBorders": ("given",), "NotARoom": ("given",), "InvalidSizes": ("index",), "InvalidFilling": ("index",),
        "InvalidNames": ("index",), "InvalidLines": ("index",)},
    "BadName": {"UnknownName": ("given",), "InUse": ("index",)},
    "NoAnswer": {
        "OtherLetters": (), "TooMany": ("limit",), "NothingToUndo": (), "NotAsked": ("index",),
        "Broken": ("index", "shown")},
}


class Unequal:
    """Cannot be compared, shown or tested: an attribute is kept whatever it is."""

    def __eq__(self, other):
        raise RuntimeError

    def __repr__(self):
        raise RuntimeError

    def __bool__(self):
        raise RuntimeError


def all_classes():
    return [(base, name, attributes) for base in CLASSES for name, attributes in CLASSES[base].items()]


def some_values():
    return [None, True, False, 0, -1, 10 ** 39, "", "x out", b"", (), (1, "a"), [], [[1]], {}, {"a": 1}, object(), int,
            ValueError("x"), Unequal()]


class Errors(unittest.TestCase):

    def test_base_classes(self):
        for name, above in BASES.items():
            made = getattr(errors, name)
            self.assertEqual(made.__bases__, (above,), name)
            self.assertIsInstance(made(), above)
            self.assertEqual(vars(made()), {}, name)

    def test_each_class_stands_under_its_one_base_class_alone(self):
        for base, name, attributes in all_classes():
            self.assertEqual(getattr(errors, name).__bases__, (getattr(errors, base),), name)

    def test_no_class_is_caught_as_another_one(self):
        for base, name, attributes in all_classes():
            made = getattr(errors, name)(*attributes)
            caught = [other for other in list(BASES) + [row[1] for row in all_classes()]
                      if isinstance(made, getattr(errors, other))]
            self.assertEqual(sorted(caught), sorted([base, name]))
            above = [python for python in (ValueError, LookupError, ArithmeticError) if isinstance(made, python)]
            self.assertEqual(above, [BASES[base]], name)

    def test_attributes_are_kept_as_they_are_passed_by_place(self):
        for base, name, attributes in all_classes():
            for at in range(len(some_values())):
                values = [some_values()[at - k] for k in range(len(attributes))]
                self.keeps(getattr(errors, name)(*values), attributes, values)

    def test_attributes_are_kept_as_they_are_passed_by_name(self):
        for base, name, attributes in all_classes():
            for at in range(len(some_values())):
                values = [some_values()[at - k] for k in range(len(attributes))]
                self.keeps(getattr(errors, name)(**dict(zip(attributes, values))), attributes, values)

    def test_attributes_by_name_in_another_order(self):
        broken = errors.Broken(shown=(0, 1), index=3)
        self.assertEqual((broken.index, broken.shown), (3, (0, 1)))
        mixed = errors.Broken(3, shown=None)
        self.assertEqual((mixed.index, mixed.shown), (3, None))

    def test_each_class_asks_for_just_its_attributes(self):
        for base, name, attributes in all_classes():
            made = getattr(errors, name)
            if attributes:
                self.assertRaises(TypeError, made)
                self.assertRaises(TypeError, made, *attributes, "more")

    def test_they_are_raised_and_caught_by_their_base_classes(self):
        for base, name, attributes in all_classes():
            for caught in (getattr(errors, name), getattr(errors, base), BASES[base]):
                with self.assertRaises(caught):
                    raise getattr(errors, name)(*attributes)

    def test_the_module_has_no_other_classes(self):
        told = [name for name, value in vars(errors).items() if isinstance(value, type)]
        self.assertEqual(sorted(told), sorted(list(BASES) + [row[1] for row in all_classes()]))

    def keeps(self, made, attributes, values):
        self.assertEqual(sorted(vars(made)), sorted(attributes))
        for attribute, value in zip(attributes, values):
            self.assertIs(getattr(made, attribute), value)
