"""The interface: the names of each module, their parameters, and where they are defined."""

import importlib
import inspect
import unittest

FUNCTIONS = {
    "pileports.numbers": {
        "greatest_divisor": "(one, other)",
        "least_multiple": "(*numbers)",
        "common_rounds": "(remainders)",
    },
    "pileports.places": {
        "resolve": "(end_place, size)",
        "place_text": "(end_place)",
        "parse_place": "(text)",
    },
    "pileports.moves": {
        "is_move": "(move)",
        "reach": "(move)",
        "move_text": "(move)",
        "undoing": "(move)",
        "parse_move": "(text)",
        "image": "(move, size, place)",
    },
}


class InterfaceTest(unittest.TestCase):
    def test_functions(self):
        for module_name, functions in FUNCTIONS.items():
            module = importlib.import_module(module_name)
            for name, parameters in functions.items():
                function = getattr(module, name)
                self.assertEqual(function.__module__, module_name)
                self.assertEqual(str(inspect.signature(function)), parameters, name)


if __name__ == "__main__":
    unittest.main()
