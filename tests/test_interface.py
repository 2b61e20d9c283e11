"""Names, parameters and places are as the document's interface lists them."""

import ast
import importlib
import inspect
import pathlib
import unittest

from cornerways.books import Book
from cornerways.motifs import Borders
from cornerways.rooms import Room

PACKAGE = pathlib.Path(__file__).resolve().parent.parent / "cornerways"

CLASSES = {
    "errors": ("BadValue", "InvalidText", "InvalidLine", "InvalidState", "InvalidNumber", "InvalidName", "InvalidIndex",
               "InvalidWish", "InvalidClaim", "NotBorders", "NotARoom", "InvalidSizes", "InvalidFilling",
               "InvalidNames", "InvalidLines", "BadName", "UnknownName", "InUse", "NoAnswer", "OtherLetters", "TooMany",
               "NothingToUndo", "NotAsked", "Broken"),
    "motifs": ("Borders",),
    "rooms": ("Room",),
    "books": ("Book",),
}

FUNCTIONS = {
    "sides": {"shown": ["borders", "begin", "many"], "beginnings": ["borders", "text"],
              "walk": ["borders", "begin", "filling"], "side_cost": ["borders", "length", "begin", "end"],
              "least_filling": ["borders", "length", "begin", "end"], "calendar": ["borders"]},
    "closing": {"least_cost": ["borders", "room", "sizes"], "least_border": ["borders", "room", "sizes"],
                "ways": ["borders", "room", "sizes"]},
    "sizes": {"always": ["borders", "room"], "failing": ["borders", "room"], "dearest": ["borders", "room"],
              "count_closing": ["borders", "room", "top"], "count_both": ["borders", "room", "inner", "top"],
              "enough": ["borders", "room"]},
    "comparing": {"alike": ["one", "other", "room"], "parting": ["one", "other", "room"],
                  "never_dearer": ["one", "other", "room"]},
    "mends": {"mending": ["borders", "room", "wish", "lines"]},
    "checker": {"accepts": ["claim", "paper"]},
    "papers": {"paper_of_cost": ["borders", "room", "sizes"], "paper_of_floor": ["borders", "room", "sizes"],
               "paper_of_always": ["borders", "room"], "paper_of_unlike": ["one", "other", "room"]},
}

METHODS = {
    Borders: {"__init__": ["text"], "add": ["line"], "only": ["names"], "__eq__": ["other"], "__str__": []},
    Room: {"__init__": ["text"], "lengths": ["sizes"], "__eq__": ["other"], "__str__": [], "__len__": []},
    Book: {"__init__": [], "__setitem__": ["name", "borders"], "__getitem__": ["name"], "remove": ["name"],
           "claim": ["claim"], "lift": ["index"], "undo": [], "__contains__": ["value"], "__len__": [], "__bool__": [],
           "trial": [], "tried": ["action"]},
}

PROPERTIES = {
    Borders: ("text", "signs", "states", "pieces", "corners", "names"),
    Room: ("text", "sides", "letters"),
    Book: ("titles", "claims", "changes"),
}


class Interface(unittest.TestCase):

    def test_each_class_is_defined_in_its_file(self):
        for module, names in CLASSES.items():
            tree = ast.parse((PACKAGE / f"{module}.py").read_text())
            defined = [node.name for node in tree.body if isinstance(node, ast.ClassDef)]
            if module == "errors":
                self.assertEqual(sorted(defined), sorted(names))
            self.assertLessEqual(set(names), set(defined))
            for name in names:
                made = getattr(importlib.import_module(f"cornerways.{module}"), name)
                self.assertEqual(made.__module__, f"cornerways.{module}")

    def test_each_function_is_defined_in_its_file(self):
        for module, functions in FUNCTIONS.items():
            tree = ast.parse((PACKAGE / f"{module}.py").read_text())
            defined = [node.name for node in tree.body if isinstance(node, ast.FunctionDef)]
            for name, parameters in functions.items():
                self.assertIn(name, defined)
                made = getattr(importlib.import_module(f"cornerways.{module}"), name)
                self.assertEqual(made.__module__, f"cornerways.{module}")
                told = inspect.signature(made).parameters
                self.assertEqual(list(told), parameters, name)
                for parameter in told.values():
                    self.assertEqual([parameter.kind, parameter.default],
                                     [parameter.POSITIONAL_OR_KEYWORD, parameter.empty])

    def test_each_method_is_defined_in_its_class(self):
        for made, methods in METHODS.items():
            for name, parameters in methods.items():
                told = inspect.signature(vars(made)[name]).parameters
                self.assertEqual(list(told)[1:], parameters, name)

    def test_each_property_is_defined_in_its_class(self):
        for made, names in PROPERTIES.items():
            for name in names:
                self.assertIsInstance(vars(made)[name], property)

    def test_oblong_is_called_off_the_class(self):
        self.assertIn("oblong", vars(Room))
        parameters = inspect.signature(Room.oblong).parameters
        self.assertEqual([(name, told.default) for name, told in parameters.items()], [("by", 0)])
