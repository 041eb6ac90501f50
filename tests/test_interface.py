"""The interface: the names of each module, their parameters, and where they are defined."""

import importlib
import inspect
import unittest

FUNCTIONS = {
    "pileports.numbers": {
        "greatest_divisor": "(one, other)",
        "least_multiple": "(*numbers)",
        "common_rounds": "(remainders)",
    },
    "pileports.places": {
        "resolve": "(end_place, size)",
        "place_text": "(end_place)",
        "parse_place": "(text)",
    },
    "pileports.moves": {
        "is_move": "(move)",
        "reach": "(move)",
        "move_text": "(move)",
        "undoing": "(move)",
        "parse_move": "(text)",
        "image": "(move, size, place)",
    },
    "pileports.steady": {
        "form_of": "(word)",
        "steady_from": "(word)",
    },
    "pileports.alike": {
        "alike_sizes": "(one, other)",
        "first_difference": "(one, other, size)",
    },
    "pileports.ways": {
        "way": "(word, size, place)",
        "way_length": "(word, size, place)",
        "walk": "(word, size, place, *, many=10)",
        "census": "(word, size)",
        "order": "(word, size)",
        "is_even": "(word, size)",
    },
    "pileports.wires": {
        "families": "(word)",
        "steady_order": "(word)",
    },
    "pileports.rounds": {
        "after": "(word, size, place, rounds)",
        "through": "(plays, size, place)",
    },
    "pileports.wishes": {
        "meeting": "(word, size, place, goal, *, turned=None)",
        "wish": "(word, size, wants)",
    },
    "pileports.pages": {
        "write_page": "(room)",
        "read_page": "(text)",
    },
}

# What stands in the body of each class, as it is seen from an object where it is a plain method.
CLASSES = {
    ("pileports.words", "Word"): {
        "__init__": "(self, *moves)",
        "read": "(text)",
        "moves": "(self)",
        "undone": "(self)",
        "image": "(self, size, place)",
        "play": "(self, size)",
        "__add__": "(self, other)",
        "__len__": "(self)",
        "__eq__": "(self, other)",
        "__str__": "(self)",
        "__repr__": "(self)",
    },
    ("pileports.forms", "Form"): {
        "__init__": "(self, turned, shift, top, bottom)",
        "still": "()",
        "of": "(moves)",
        "read": "(text)",
        "top": "(self)",
        "bottom": "(self)",
        "__call__": "(self, end_place)",
        "image": "(self, size, place)",
        "listed": "(self, size)",
        "__mul__": "(self, other)",
        "inverse": "(self)",
        "spelled": "(self)",
        "__eq__": "(self, other)",
        "__str__": "(self)",
        "__repr__": "(self)",
    },
    ("pileports.piles", "Pile"): {
        "__init__": "(self, size)",
        "play": "(self, word, *, rounds=1)",
        "plays": "(self)",
        "now": "(self, place)",
        "start": "(self, place)",
        "undo": "(self)",
        "redo": "(self)",
        "history": "(self)",
        "twin": "(self)",
        "__eq__": "(self, other)",
        "__len__": "(self)",
        "__repr__": "(self)",
    },
    ("pileports.piles", "MarkedPile"): {
        "__init__": "(self, size)",
        "mark": "(self, name, place)",
        "unmark": "(self, name)",
        "marks": "(self)",
        "find": "(self, name)",
        "twin": "(self)",
        "__eq__": "(self, other)",
        "__repr__": "(self)",
    },
    ("pileports.rooms", "Room"): {
        "__init__": "(self)",
        "apply": "(self, deed)",
        "apply_all": "(self, deeds)",
        "trial": "(self, deeds)",
        "undo": "(self)",
        "redo": "(self)",
        "history": "(self)",
        "set_capacity": "(self, value)",
        "words": "(self)",
        "piles": "(self)",
        "get": "(self, name)",
        "pile": "(self, name)",
        "watches": "(self)",
        "coming": "(self)",
        "twin": "(self)",
        "__eq__": "(self, other)",
        "__len__": "(self)",
        "__contains__": "(self, name)",
        "__repr__": "(self)",
        "table": "(self)",
    },
    ("pileports.console", "Console"): {
        "__init__": "(self, *, room=None)",
        "run": "(self, line)",
        "room": "(self)",
        "log": "(self)",
        "__len__": "(self)",
    },
}

PROPERTIES = {
    ("pileports.words", "Word"): ("reach",),
    ("pileports.forms", "Form"): ("turned", "shift", "least"),
    ("pileports.piles", "Pile"): ("cards",),
    ("pileports.rooms", "Room"): ("busy", "capacity"),
}

CLASS_VALUES = {
    ("pileports.words", "Word"): {"MOST_MOVES": 40, "MOST_REACH": 60},
    ("pileports.forms", "Form"): {"WIDEST": 400},
    ("pileports.piles", "Pile"): {"MOST_PLAYS": 60},
    ("pileports.piles", "MarkedPile"): {"MOST_MARKS": 12},
    ("pileports.rooms", "Room"): {"MOST_WORDS": 12, "MOST_PILES": 6, "MOST_WATCHES": 6},
}

CLASS_METHODS = {("pileports.words", "Word"): ("read",), ("pileports.forms", "Form"): ("of", "read")}


VALUES = {
    "pileports.places": {"MOST_DEPTH": 399, "MOST_CARDS": 10 ** 30},
    "pileports.moves": {"MOST_BLOCK": 400},
    "pileports.rounds": {"MOST_ROUNDS": 10 ** 30},
}

# Every listed function stands in its module under a heading of the document, and each of these modules is there.
MODULES = """errors numbers places moves words forms steady alike ways wires rounds wishes piles rooms pages console""".split()

GENERATORS = {("pileports.ways", "walk")}


def class_named(key):
    return getattr(importlib.import_module(key[0]), key[1])


class InterfaceTest(unittest.TestCase):
    def test_modules(self):
        named = {key for key in FUNCTIONS} | {key[0] for key in CLASSES} | {"pileports.errors"}
        self.assertEqual(named, {"pileports." + name for name in MODULES})
        for name in named:
            importlib.import_module(name)

    def test_functions(self):
        for module_name, functions in FUNCTIONS.items():
            module = importlib.import_module(module_name)
            for name, parameters in functions.items():
                function = getattr(module, name)
                self.assertEqual(function.__module__, module_name)
                self.assertEqual(str(inspect.signature(function)), parameters, name)
                self.assertEqual(inspect.isgeneratorfunction(function), (module_name, name) in GENERATORS)

    def test_values(self):
        for module_name, values in VALUES.items():
            for name, value in values.items():
                self.assertEqual(getattr(importlib.import_module(module_name), name), value)

    def test_classes(self):
        for key, methods in CLASSES.items():
            found = class_named(key)
            self.assertEqual(found.__module__, key[0])
            for name, parameters in methods.items():
                self.assertIn(name, vars(found))
                self.assertEqual(str(inspect.signature(getattr(found, name))), parameters, name)

    def test_properties(self):
        for key, names in PROPERTIES.items():
            for name in names:
                made = vars(class_named(key))[name]
                self.assertIsInstance(made, property)
                self.assertEqual(made.fset is not None, name == "capacity")

    def test_class_values(self):
        for key, values in CLASS_VALUES.items():
            for name, value in values.items():
                self.assertEqual(vars(class_named(key))[name], value)

    def test_base_classes(self):
        pile = class_named(("pileports.piles", "Pile"))
        self.assertEqual(class_named(("pileports.piles", "MarkedPile")).__bases__, (pile,))
        self.assertEqual(class_named(("pileports.piles", "MarkedPile")).MOST_PLAYS, 60)

    def test_class_methods_and_static_methods(self):
        for key, names in CLASS_METHODS.items():
            for name in names:
                self.assertIsInstance(vars(class_named(key))[name], classmethod)
        self.assertIsInstance(vars(class_named(("pileports.forms", "Form")))["still"], staticmethod)


if __name__ == "__main__":
    unittest.main()
