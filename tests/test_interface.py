"""The names, arguments and places of the interface."""

import importlib
import inspect
import unittest

CONSTANTS = {
    "oncework.ground.terms": {"MAX_PARTS": 400, "MAX_VARIABLE": 1000},
    "oncework.ground.steps": {"MOST_STEPS": 60},
}
FUNCTIONS = {
    "oncework.ground.terms": {
        "is_term": "value", "part_end": "term place", "part_of": "term place",
        "holder_of": "term place", "kind_of": "term place", "depth_of": "term place",
        "level_of": "term place", "function_of": "term place", "variables_of": "term place",
        "open_variables": "term", "raised_term": "term number", "called": "term other",
        "function_with": "term",
    },
    "oncework.ground.steps": {
        "steps_of": "term", "is_step": "term value", "step_done": "term place",
        "origins": "term place", "rests": "term place other", "is_history": "term value",
        "end_of": "term history", "rests_behind": "term history place", "is_lot": "term value",
        "lot_history": "term lot", "lot_done": "term lot",
    },
}


class Interface(unittest.TestCase):

    def test_constants(self):
        for module, table in CONSTANTS.items():
            for name, value in table.items():
                self.assertEqual(getattr(importlib.import_module(module), name), value)

    def test_functions_are_defined_where_they_are_listed(self):
        for module, table in FUNCTIONS.items():
            for name, parameters in table.items():
                function = getattr(importlib.import_module(module), name)
                self.assertEqual(function.__module__, module)
                told = inspect.signature(function).parameters
                self.assertEqual(" ".join(told), parameters)
                for parameter in told.values():
                    self.assertEqual(parameter.kind, parameter.POSITIONAL_OR_KEYWORD)
                    self.assertIs(parameter.default, parameter.empty)


if __name__ == "__main__":
    unittest.main()
