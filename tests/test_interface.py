"""The interface: each name in its file, with its arguments, and each attribute from the start."""

import inspect
import unittest
from importlib import import_module

from claimlayers.books import Book
from claimlayers.years import Year

PLAN = (100, ((50, 120, (1, 2)), (200, 300, (1,))))

FUNCTIONS = {
    "plans": {"is_layer": ["thing"], "is_plan": ["thing"], "split": ["paid", "weights"]},
    "damages": {"is_damage": ["thing"], "ahead": ["one", "other"], "written": ["damage"], "read": ["line"]},
    "sharing": {"shared": ["plan", "used", "amount"], "behind": ["used", "paid"]},
    "desk": {"played": ["plan", "text"]},
}
CLASSES = {
    "years": ("Year", {
        "__init__": ["plan"], "put": ["damage"], "drop": ["number"], "damages": [], "used": [],
        "share": ["number"], "trail": ["number"],
    }),
    "books": ("Book", {
        "__init__": ["plan"], "told": ["damage"], "change": ["number", "amount"], "back": ["number"],
        "close": ["year"], "reopen": ["year"], "stands": ["number"], "closed": ["year"], "damage": ["number"],
        "share": ["number"], "trail": ["number"], "parts": ["number"], "damages": ["year"], "used": ["year"],
        "years": [], "dues": ["year"],
    }),
}


def arguments(function):
    return list(inspect.signature(function).parameters)


class Interface(unittest.TestCase):
    def test_functions_are_defined_in_their_files(self):
        for place, names in FUNCTIONS.items():
            module = import_module(f"claimlayers.{place}")
            for name, expected in names.items():
                function = getattr(module, name)
                self.assertTrue(inspect.isfunction(function), name)
                self.assertEqual(function.__module__, module.__name__)
                self.assertEqual(arguments(function), expected)

    def test_classes_are_defined_in_their_files(self):
        for place, (name, methods) in CLASSES.items():
            module = import_module(f"claimlayers.{place}")
            kind = getattr(module, name)
            self.assertTrue(inspect.isclass(kind), name)
            self.assertEqual(kind.__module__, module.__name__)
            for method, expected in methods.items():
                self.assertEqual(arguments(vars(kind)[method]), ["self"] + expected)

    def test_attributes_are_set_from_the_start(self):
        self.assertEqual(vars(Book(PLAN))["plan"], PLAN)
        self.assertEqual(vars(Year(PLAN))["plan"], PLAN)
        self.assertEqual(vars(Year(PLAN))["row"], [])
        self.assertIsNot(Year(PLAN).row, Year(PLAN).row)


if __name__ == "__main__":
    unittest.main()
