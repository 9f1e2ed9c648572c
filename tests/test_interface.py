"""The names, arguments and places of the interface."""

import importlib
import inspect
import unittest

CONSTANTS = {
    "oncework.ground.terms": {"MAX_PARTS": 400, "MAX_VARIABLE": 1000},
    "oncework.ground.steps": {"MOST_STEPS": 60},
    "oncework.labels.names": {"MAX_WORDS": 2000},
    "oncework.labels.lots": {"MAX_NAMES": 12},
    "oncework.pieces.drawn": {"MOST_TO": 4, "MOST_HISTORIES": 500},
    "oncework.pieces.roots": {"MOST_ROOT_STEPS": 60},
    "oncework.pieces.numerals": {"MAX_NUMERAL": 150},
    "oncework.pieces.whole": {"MAX_FEW_PARTS": 12, "MAX_FEW": 4},
}
FUNCTIONS = {
    "oncework.ground.terms": {
        "is_term": "value", "part_end": "term place", "part_of": "term place",
        "holder_of": "term place", "kind_of": "term place", "depth_of": "term place",
        "level_of": "term place", "function_of": "term place", "variables_of": "term place",
        "open_variables": "term", "raised_term": "term number", "called": "term other",
        "function_with": "term",
    },
    "oncework.ground.steps": {
        "steps_of": "term", "is_step": "term value", "step_done": "term place",
        "origins": "term place", "rests": "term place other", "is_history": "term value",
        "end_of": "term history", "rests_behind": "term history place", "is_lot": "term value",
        "lot_history": "term lot", "lot_done": "term lot",
    },
    "oncework.ground.behind": {
        "lot_behind": "term lot place", "history_behind": "term one other",
        "met_end": "term one other", "are_one_class": "term one other",
        "left_step": "term one other",
    },
    "oncework.ground.standard": {
        "is_standard": "term history", "first_fault": "term history",
        "standard_of": "term history", "standard_histories": "term most",
    },
    "oncework.labels.names": {
        "names_along": "term history", "part_name": "term history place",
        "step_name": "term history", "is_name": "term value", "name_height": "term name",
        "letters_of": "term name", "inner_names": "term name", "led_name": "term history name",
    },
    "oncework.labels.lots": {
        "open_names": "term history", "names_done": "term history names",
        "are_names_done": "term history names value", "finished_names": "term history",
    },
    "oncework.pieces.drawn": {
        "had_without": "term place history", "drawn_out": "term history",
        "is_drawn_out": "term history", "are_one_piece": "term one other",
        "pieces_to": "term most",
    },
    "oncework.pieces.roots": {
        "root_step": "term", "is_last": "value", "root_history": "term most", "last_form": "term",
        "root_length": "term", "is_needed": "term place", "needed_steps": "term",
        "needless_history": "term place",
    },
    "oncework.pieces.numerals": {
        "numeral": "number", "numeral_of": "term", "sum_term": "one other",
        "product_term": "one other", "power_term": "one other",
    },
    "oncework.pieces.whole": {
        "piece_history": "term history name", "row_of": "term history",
        "row_history": "term row", "root_pieces": "term", "piece_rows": "term most",
        "fewest_pieces": "term most",
    },
}


class Interface(unittest.TestCase):

    def test_constants(self):
        for module, table in CONSTANTS.items():
            for name, value in table.items():
                self.assertEqual(getattr(importlib.import_module(module), name), value)

    def test_functions_are_defined_where_they_are_listed(self):
        for module, table in FUNCTIONS.items():
            for name, parameters in table.items():
                function = getattr(importlib.import_module(module), name)
                self.assertEqual(function.__module__, module)
                told = inspect.signature(function).parameters
                self.assertEqual(" ".join(told), parameters)
                for parameter in told.values():
                    self.assertEqual(parameter.kind, parameter.POSITIONAL_OR_KEYWORD)
                    self.assertIs(parameter.default, parameter.empty)

    def test_the_generator(self):
        standard = importlib.import_module("oncework.ground.standard")
        self.assertTrue(inspect.isgeneratorfunction(standard.standard_histories))


if __name__ == "__main__":
    unittest.main()
