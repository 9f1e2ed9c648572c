"""The names, arguments and places of the interface."""

import importlib
import inspect
import unittest

CONSTANTS = {
    "oncework.ground.terms": {"MAX_PARTS": 400, "MAX_VARIABLE": 1000},
    "oncework.ground.steps": {"MOST_STEPS": 60},
    "oncework.labels.names": {"MAX_WORDS": 2000},
    "oncework.labels.lots": {"MAX_NAMES": 12},
    "oncework.pieces.drawn": {"MOST_TO": 4, "MOST_HISTORIES": 500},
    "oncework.pieces.roots": {"MOST_ROOT_STEPS": 60},
    "oncework.pieces.numerals": {"MAX_NUMERAL": 150},
    "oncework.pieces.whole": {"MAX_FEW_PARTS": 12, "MAX_FEW": 4},
    "oncework.paths.walks": {"MAX_EDGES": 400, "MOST_EDGES": 24, "MOST_WALKS": 500},
    "oncework.paths.made": {"MAX_LED": 2000},
    "oncework.paths.reader": {"MAX_GONE": 4000, "MAX_ASKED": 12},
    "oncework.bench.bench": {"MOST_STEPS": 60, "MOST_DEEDS": 40, "MOST_ORDER": 60},
    "oncework.prose.texts": {"MAX_TEXT": 20000},
    "oncework.prose.shell": {"MAX_LINE": 2000, "MOST_LINES": 40},
}
FUNCTIONS = {
    "oncework.ground.terms": {
        "is_term": "value", "part_end": "term place", "part_of": "term place",
        "holder_of": "term place", "kind_of": "term place", "depth_of": "term place",
        "level_of": "term place", "function_of": "term place", "variables_of": "term place",
        "open_variables": "term", "raised_term": "term number", "called": "term other",
        "function_with": "term",
    },
    "oncework.ground.steps": {
        "steps_of": "term", "is_step": "term value", "step_done": "term place",
        "origins": "term place", "rests": "term place other", "is_history": "term value",
        "end_of": "term history", "rests_behind": "term history place", "is_lot": "term value",
        "lot_history": "term lot", "lot_done": "term lot",
    },
    "oncework.ground.behind": {
        "lot_behind": "term lot place", "history_behind": "term one other",
        "met_end": "term one other", "are_one_class": "term one other",
        "left_step": "term one other",
    },
    "oncework.ground.standard": {
        "is_standard": "term history", "first_fault": "term history",
        "standard_of": "term history", "standard_histories": "term most",
    },
    "oncework.labels.names": {
        "names_along": "term history", "part_name": "term history place",
        "step_name": "term history", "is_name": "term value", "name_height": "term name",
        "letters_of": "term name", "inner_names": "term name", "led_name": "term history name",
    },
    "oncework.labels.lots": {
        "open_names": "term history", "names_done": "term history names",
        "are_names_done": "term history names value", "finished_names": "term history",
    },
    "oncework.pieces.drawn": {
        "had_without": "term place history", "drawn_out": "term history",
        "is_drawn_out": "term history", "are_one_piece": "term one other",
        "pieces_to": "term most",
    },
    "oncework.pieces.roots": {
        "root_step": "term", "is_last": "value", "root_history": "term most", "last_form": "term",
        "root_length": "term", "is_needed": "term place", "needed_steps": "term",
        "needless_history": "term place",
    },
    "oncework.pieces.numerals": {
        "numeral": "number", "numeral_of": "term", "sum_term": "one other",
        "product_term": "one other", "power_term": "one other",
    },
    "oncework.pieces.whole": {
        "piece_history": "term history name", "row_of": "term history",
        "row_history": "term row", "root_pieces": "term", "piece_rows": "term most",
        "fewest_pieces": "term most",
    },
    "oncework.paths.walks": {
        "is_walk": "term value", "walk_end": "term walk", "next_edges": "term walk",
        "is_balanced": "term value", "balanced_walks": "term most", "name_of_walk": "term walk",
        "walk_of_name": "term name",
    },
    "oncework.paths.weights": {
        "sticking_index": "term walk", "does_pass": "term walk", "stack_sizes": "term walk index",
        "first_log": "term walk",
    },
    "oncework.paths.made": {
        "led_walk": "term place walk", "led_along": "term history walk",
        "walk_of_step": "term history", "used_steps": "term walk", "history_of_walk": "term walk",
    },
    "oncework.paths.reader": {
        "read_front": "term", "read_at": "term path", "edges_gone": "term path",
        "read_form": "term",
    },
    "oncework.bench.log": {"log_text": "bench", "read_log": "text"},
    "oncework.prose.texts": {
        "write_term": "term", "read_term": "text", "write_row": "value", "read_row": "text",
        "write_rows": "value", "read_rows": "text",
    },
}
# For each class what its object takes, its methods, and its properties.
CLASSES = {
    "oncework.bench.bench": ("Bench", "term", {
        "do": "place", "do_piece": "place", "run": "order", "undo": "deeds", "joined": "other",
        "name_here": "place", "pieces_met": "", "shortest": "place", "twin": "",
        "__contains__": "value", "__len__": "", "__bool__": "", "__eq__": "other", "__str__": "",
    }, ("first_term", "term_now", "history", "deeds")),
    "oncework.prose.shell": ("Shell", "bench", {
        "say": "line", "tell": "lines", "__str__": "",
    }, ("said",)),
}


class Interface(unittest.TestCase):

    def test_constants(self):
        for module, table in CONSTANTS.items():
            for name, value in table.items():
                self.assertEqual(getattr(importlib.import_module(module), name), value)

    def test_functions_are_defined_where_they_are_listed(self):
        for module, table in FUNCTIONS.items():
            for name, parameters in table.items():
                function = getattr(importlib.import_module(module), name)
                self.assertEqual(function.__module__, module)
                told = inspect.signature(function).parameters
                self.assertEqual(" ".join(told), parameters)
                for parameter in told.values():
                    self.assertEqual(parameter.kind, parameter.POSITIONAL_OR_KEYWORD)
                    self.assertIs(parameter.default, parameter.empty)

    def test_classes_and_their_own_methods(self):
        for module, (name, taken, methods, properties) in CLASSES.items():
            made = getattr(importlib.import_module(module), name)
            self.assertEqual(made.__module__, module)
            self.assertEqual(list(inspect.signature(made).parameters), [taken])
            for method, parameters in methods.items():
                told = list(inspect.signature(made.__dict__[method]).parameters.values())[1:]
                self.assertEqual(" ".join([parameter.name for parameter in told]), parameters)
                for parameter in told:
                    by_keyword = (name, method) == ("Bench", "undo")
                    self.assertEqual(parameter.kind, parameter.KEYWORD_ONLY if by_keyword
                                     else parameter.POSITIONAL_OR_KEYWORD)
                    self.assertEqual(parameter.default, 1 if by_keyword else parameter.empty)
            for told in properties:
                self.assertIsInstance(made.__dict__[told], property)

    def test_the_generator(self):
        standard = importlib.import_module("oncework.ground.standard")
        self.assertTrue(inspect.isgeneratorfunction(standard.standard_histories))


if __name__ == "__main__":
    unittest.main()
