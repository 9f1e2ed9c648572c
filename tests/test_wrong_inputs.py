"""Wrong inputs of every kind, for each function, and which error comes first."""

import unittest

from oncework import errors
from oncework.ground import behind, standard, steps, terms
from oncework.labels import lots, names
from oncework.paths import made, reader, walks, weights
from oncework.pieces import drawn, numerals, roots, whole
from oncework.prose import texts
from samples import (BALANCED_399, GROWS_BOTH_WAYS, GROWS_TOO_LONG, I, JUNK, LONG, LOOP, NAME, NAMES,
                     RAISES_TOO_HIGH, TWICE, WALK_400, WALK_401, WRONG_COUNTS, WRONG_FEW_TERMS,
                     WRONG_HISTORIES, WRONG_LOTS, WRONG_LOTS_OF_NAMES, WRONG_NAMES, WRONG_NUMBERS,
                     WRONG_PATHS, WRONG_PLACES, WRONG_ROWS, WRONG_SMALL_TERMS, WRONG_STEPS,
                     WRONG_TERMS, WRONG_WALKS)

# For each kind of parameter a right value for TWICE, the wrong ones, and their error.
KINDS = {
    "term": (TWICE, WRONG_TERMS, errors.InvalidTerm),
    "small": (TWICE, WRONG_SMALL_TERMS, errors.InvalidTerm),
    "few": (TWICE, WRONG_FEW_TERMS, errors.InvalidTerm),
    "place": (5, WRONG_PLACES, errors.InvalidPlace),
    "step": (5, WRONG_STEPS, errors.InvalidPlace),
    "history": ((0, 1), WRONG_HISTORIES, errors.InvalidHistory),
    "beginning": ((), WRONG_HISTORIES, errors.InvalidHistory),
    "further": ((0,), [value for value in WRONG_HISTORIES if value != (0, 0)],
                errors.InvalidHistory),
    "lot": ((0, 5), WRONG_LOTS, errors.InvalidLot),
    "name": (NAME, WRONG_NAMES, errors.InvalidName),
    "names": (NAMES, WRONG_LOTS_OF_NAMES, errors.InvalidName),
    "row": ((NAME,), WRONG_ROWS, errors.InvalidName),
    "number": (7, WRONG_NUMBERS, errors.InvalidNumber),
    "to4": (2, WRONG_COUNTS + [5], errors.InvalidNumber),
    "1to4": (2, WRONG_COUNTS + [0, 5], errors.InvalidNumber),
    "to60": (7, WRONG_COUNTS, errors.InvalidNumber),
    "to150": (7, [value for value in WRONG_COUNTS if value != 61], errors.InvalidNumber),
    "1to24": (5, WRONG_COUNTS + [0, 25], errors.InvalidNumber),
    "walk": ((2,), WRONG_WALKS, errors.InvalidWalk),
    "balanced": ((2,), WRONG_WALKS + [(4,), (4, -2), (4, -2, 6, 7)], errors.InvalidWalk),
    "index": (0, WRONG_COUNTS + [1], errors.InvalidNumber),
    "path": ((), [value for value in WRONG_PATHS if value not in ((0, 0), (10 ** 60 - 1,))],
             errors.InvalidOperation),
}


def all_standard_histories(term, most):
    """A generator raises its errors when its first result is asked for."""
    return list(standard.standard_histories(term, most))



# The kinds of the parameters of each function of the interface that raises errors.
FUNCTIONS = [
    (terms.part_end, ("term", "place")), (terms.part_of, ("term", "place")),
    (terms.holder_of, ("term", "place")), (terms.kind_of, ("term", "place")),
    (terms.depth_of, ("term", "place")), (terms.level_of, ("term", "place")),
    (terms.open_variables, ("term",)), (terms.raised_term, ("term", "number")),
    (terms.called, ("term", "term")), (terms.function_with, ("term",)),
    (steps.steps_of, ("term",)), (steps.step_done, ("term", "step")),
    (steps.origins, ("term", "step")), (steps.rests, ("term", "step", "place")),
    (steps.end_of, ("term", "history")), (steps.rests_behind, ("term", "history", "place")),
    (steps.lot_history, ("term", "lot")), (steps.lot_done, ("term", "lot")),
    (behind.lot_behind, ("term", "lot", "step")),
    (behind.history_behind, ("term", "history", "history")),
    (behind.met_end, ("term", "history", "history")),
    (behind.are_one_class, ("term", "history", "history")),
    (behind.left_step, ("term", "history", "history")),
    (standard.is_standard, ("small", "history")), (standard.first_fault, ("small", "history")),
    (standard.standard_of, ("small", "history")), (all_standard_histories, ("small", "to4")),
    (names.names_along, ("small", "history")), (names.part_name, ("small", "history", "place")),
    (names.step_name, ("small", "history")), (names.name_height, ("small", "name")),
    (names.letters_of, ("small", "name")), (names.inner_names, ("small", "name")),
    (names.led_name, ("small", "beginning", "name")),
    (lots.open_names, ("small", "history")), (lots.names_done, ("small", "history", "names")),
    (lots.finished_names, ("small", "history")),
    (drawn.had_without, ("small", "step", "further")), (drawn.drawn_out, ("small", "history")),
    (drawn.is_drawn_out, ("small", "history")),
    (drawn.are_one_piece, ("small", "history", "history")), (drawn.pieces_to, ("small", "1to4")),
    (roots.root_step, ("term",)), (roots.root_history, ("term", "to60")),
    (roots.last_form, ("term",)), (roots.root_length, ("term",)),
    (roots.is_needed, ("term", "step")), (roots.needed_steps, ("term",)),
    (roots.needless_history, ("term", "step")),
    (numerals.numeral, ("to150",)), (numerals.numeral_of, ("term",)),
    (numerals.sum_term, ("term", "term")), (numerals.product_term, ("term", "term")),
    (numerals.power_term, ("term", "term")),
    (whole.piece_history, ("small", "beginning", "name")), (whole.row_of, ("small", "history")),
    (whole.row_history, ("small", "row")), (whole.root_pieces, ("small",)),
    (whole.piece_rows, ("few", "to4")), (whole.fewest_pieces, ("few", "to4")),
    (walks.walk_end, ("small", "walk")), (walks.next_edges, ("small", "walk")),
    (walks.balanced_walks, ("small", "1to24")), (walks.name_of_walk, ("small", "walk")),
    (walks.walk_of_name, ("small", "name")),
    (weights.sticking_index, ("small", "walk")), (weights.does_pass, ("small", "walk")),
    (weights.stack_sizes, ("small", "walk", "index")), (weights.first_log, ("small", "walk")),
    (made.led_walk, ("small", "step", "walk")), (made.led_along, ("small", "history", "walk")),
    (made.walk_of_step, ("small", "history")), (made.used_steps, ("small", "walk")),
    (made.history_of_walk, ("small", "balanced")),
    (reader.read_front, ("small",)), (reader.read_at, ("small", "path")),
    (reader.edges_gone, ("small", "path")), (reader.read_form, ("small",)),
    (texts.write_term, ("term",)),
]
JUDGES = [steps.is_step, steps.is_history, steps.is_lot, names.is_name]
SMALL_JUDGES = [walks.is_walk, walks.is_balanced]

# These two have further errors for the place 5, so a right place is told for each.
OF_A_PART = [(terms.function_of, 3), (terms.variables_of, 6)]


class Checks(unittest.TestCase):

    def check(self, error, function, given):
        with self.assertRaises(error, msg=repr((function.__name__, given))[:200]) as caught:
            function(*given)
        self.assertIs(caught.exception.__class__, error)
        return caught.exception


class Wrong(Checks):

    def test_one_wrong_argument(self):
        for function, kinds in FUNCTIONS:
            right = [KINDS[kind][0] for kind in kinds]
            function(*right)
            for at, kind in enumerate(kinds):
                for value in KINDS[kind][1]:
                    given = right[:at] + [value] + right[at + 1:]
                    error = self.check(KINDS[kind][2], function, given)
                    if KINDS[kind][2] is errors.InvalidNumber:
                        self.assertIs(error.given, value)

    def test_of_two_wrong_arguments_the_first_one_decides(self):
        for function, kinds in FUNCTIONS:
            right = [KINDS[kind][0] for kind in kinds]
            for first in range(len(kinds)):
                for second in range(first + 1, len(kinds)):
                    for one in KINDS[kinds[first]][1][::7]:
                        for other in KINDS[kinds[second]][1][::7]:
                            given = list(right)
                            given[first], given[second] = one, other
                            self.check(KINDS[kinds[first]][2], function, given)

    def test_the_kind_of_a_part(self):
        for function, place in OF_A_PART:
            function(TWICE, place)
            for value in WRONG_TERMS:
                self.check(errors.InvalidTerm, function, (value, place))
                self.check(errors.InvalidTerm, function, (value, 0))
                self.check(errors.InvalidTerm, function, (value, None))
            for value in WRONG_PLACES:
                self.check(errors.InvalidPlace, function, (TWICE, value))
            self.check(errors.InvalidOperation, function, (TWICE, 0))
            self.check(errors.InvalidOperation, function, (TWICE, 9 - place))
        self.check(errors.InvalidOperation, terms.function_of, (TWICE, 8))
        self.check(errors.InvalidOperation, terms.variables_of, (TWICE, 9))

    def test_functions_that_judge_accept_every_value(self):
        for judge in JUDGES + SMALL_JUDGES:
            for value in WRONG_TERMS if judge in JUDGES else WRONG_SMALL_TERMS:
                for judged in (0, (), (0,), (2,), None, True):
                    self.check(errors.InvalidTerm, judge, (value, judged))
            for value in JUNK + WRONG_TERMS + WRONG_PLACES + WRONG_WALKS:
                self.assertIn(judge(TWICE, value), (True, False))
                self.assertIsInstance(judge(TWICE, value), bool)
        for value in JUNK + WRONG_TERMS:
            self.assertIs(terms.is_term(value), False)
            self.assertIs(roots.is_last(value), False)

    def test_the_judge_of_lots_of_names(self):
        judge = lots.are_names_done
        kinds = ("small", "history", "names")
        right = [KINDS[kind][0] for kind in kinds]
        for value in JUNK + WRONG_TERMS + WRONG_PLACES + WRONG_HISTORIES:
            self.assertIsInstance(judge(*right, value), bool)
            for at, kind in enumerate(kinds):
                wrong = KINDS[kind][1][0]
                given = right[:at] + [wrong] + right[at + 1:] + [value]
                self.check(KINDS[kind][2], judge, given)
        for at, kind in enumerate(kinds):
            for wrong in KINDS[kind][1]:
                given = right[:at] + [wrong] + right[at + 1:] + [None]
                self.check(KINDS[kind][2], judge, given)
        self.assertIs(judge(TWICE, (0, 1), NAMES, (3,)), True)

    def test_a_history_without_an_aim(self):
        for function, given in [(names.step_name, (TWICE, ())), (drawn.drawn_out, (TWICE, ())),
                                (drawn.is_drawn_out, (TWICE, ())),
                                (drawn.had_without, (TWICE, 0, ())),
                                (drawn.are_one_piece, (TWICE, (), (1,))),
                                (drawn.are_one_piece, (TWICE, (0,), ()))]:
            self.check(errors.InvalidOperation, function, given)
        self.check(errors.InvalidHistory, drawn.are_one_piece, (TWICE, (1,), ()))
        self.check(errors.InvalidPlace, drawn.had_without, (TWICE, 1, ()))

    def test_judges_judge_the_right_values(self):
        right = {steps.is_step: [0, 5], steps.is_history: [(), (0,), (5, 0), (0, 1, 3)],
                 steps.is_lot: [(), (0,), (5,), (0, 5)],
                 names.is_name: [NAME, ((0,),), ((9,),), ((1,), (0, 10, 2))],
                 walks.is_walk: [(2,), (2, 3), (4, -2, 6), (7,)],
                 walks.is_balanced: [(2,), (7,), (4, -2, 6, 7, 8, -7, 9)]}
        for judge, values in right.items():
            for value in values:
                self.assertIs(judge(TWICE, value), True)

    def test_lists_do_not_stand_for_tuples(self):
        self.check(errors.InvalidTerm, terms.part_end, (list(TWICE), 0))
        self.check(errors.InvalidTerm, terms.called, (I, list(I)))
        self.check(errors.InvalidHistory, steps.end_of, (TWICE, [0]))
        self.check(errors.InvalidHistory, steps.end_of, (TWICE, []))
        self.check(errors.InvalidLot, steps.lot_done, (TWICE, [0, 5]))
        self.check(errors.InvalidLot, steps.lot_done, (TWICE, []))
        self.assertIs(steps.is_history(TWICE, []), False)
        self.assertIs(steps.is_lot(TWICE, []), False)
        self.check(errors.InvalidWalk, walks.walk_end, (TWICE, [2]))
        self.check(errors.InvalidWalk, made.history_of_walk, (TWICE, [2]))
        self.check(errors.InvalidOperation, reader.read_at, (TWICE, []))
        self.assertIs(walks.is_walk(TWICE, [2]), False)
        self.assertIs(walks.is_balanced(TWICE, [2]), False)

    def test_booleans_are_no_integers(self):
        self.check(errors.InvalidTerm, terms.part_end, ((0, True, 1), 0))
        self.check(errors.InvalidTerm, terms.part_end, ((False, 1, 1), 0))
        self.check(errors.InvalidPlace, terms.part_end, (TWICE, False))
        self.check(errors.InvalidPlace, terms.part_end, (TWICE, True))
        self.check(errors.InvalidPlace, steps.step_done, (TWICE, False))
        self.check(errors.InvalidPlace, steps.rests, (TWICE, 0, True))
        self.check(errors.InvalidNumber, terms.raised_term, (TWICE, False))
        self.check(errors.InvalidHistory, steps.end_of, (TWICE, (False,)))
        self.check(errors.InvalidHistory, steps.end_of, (TWICE, (0, True)))
        self.check(errors.InvalidLot, steps.lot_done, (TWICE, (False, 5)))

    def test_numbers_to_raise_by(self):
        for number in (0, 1000):
            self.assertEqual(terms.raised_term(TWICE, number), TWICE)
        for number in (-1, 1001, 10 ** 60 - 1, 10 ** 60):
            self.assertIs(self.check(errors.InvalidNumber, terms.raised_term,
                                     (TWICE, number)).given, number)


class Then(Checks):
    """An error behind the word "then" comes only if no earlier one does."""

    def test_too_large_a_result_comes_last(self):
        self.assertEqual(self.check(errors.InvalidNumber, terms.raised_term,
                                    ((1000,), 1001)).given, 1001)
        self.check(errors.InvalidTerm, terms.raised_term, ((1001,), 1))
        self.check(errors.InvalidTerm, terms.called, (LONG, LONG + (1,)))
        self.check(errors.InvalidTerm, terms.called, (LONG, None))
        self.check(errors.InvalidTerm, terms.function_with, ((-1,) + LONG,))
        for term in (GROWS_TOO_LONG, RAISES_TOO_HIGH, GROWS_BOTH_WAYS):
            self.check(errors.TooMany, steps.step_done, (term, 0))
            self.check(errors.InvalidPlace, steps.step_done, (term, 1))
            self.check(errors.InvalidPlace, steps.rests, (term, 0, len(term)))
            self.check(errors.TooMany, steps.lot_done, (term, (0,)))
            self.check(errors.InvalidLot, steps.lot_done, (term, (0, 0)))
            self.check(errors.InvalidLot, steps.lot_history, (term, (0, 1)))
            self.check(errors.InvalidHistory, steps.rests_behind, (term, (0,), None))

    def test_errors_of_walks_behind_earlier_ones(self):
        # The index comes ahead of where the machine sticks, the walk ahead of the index.
        self.check(errors.InvalidNumber, weights.stack_sizes, (LOOP, WALK_400, 400))
        self.check(errors.InvalidOperation, weights.stack_sizes, (LOOP, WALK_400, 399))
        self.check(errors.InvalidWalk, weights.stack_sizes, (LOOP, WALK_401, 400))
        self.check(errors.InvalidHistory, made.led_along, (LOOP, (1,), WALK_401))
        self.check(errors.InvalidWalk, made.led_along, (LOOP, (0,), WALK_401))
        self.check(errors.InvalidWalk, made.history_of_walk, (LOOP, WALK_400))
        self.assertIsNone(made.history_of_walk(LOOP, BALANCED_399))
        long = ((0,),) + tuple([(0, 9 + 2 * k, 0, 9 + 2 * k, 0) for k in range(9)])
        self.check(errors.TooMany, walks.walk_of_name, (LOOP, long))
        self.check(errors.InvalidName, walks.walk_of_name, (LOOP, long + (long[-1],)))
        self.check(errors.InvalidTerm, walks.walk_of_name, (LOOP + LOOP, long))
        self.check(errors.InvalidOperation, reader.read_at, (LOOP, (0,) * 13))
        self.check(errors.TooMany, reader.read_at, (LOOP, (0,)))
        self.check(errors.InvalidNumber, reader.read_at, (TWICE, (0,)))

    def test_the_limit_is_kept(self):
        for function, given, limit in [
                (terms.raised_term, ((1000,), 1), 1000), (terms.function_with, (LONG,), 400),
                (terms.called, (LONG, LONG), 400), (steps.step_done, (GROWS_TOO_LONG, 0), 400),
                (steps.step_done, (RAISES_TOO_HIGH, 0), 1000),
                (steps.step_done, (GROWS_BOTH_WAYS, 0), 400),
                (steps.lot_done, (GROWS_BOTH_WAYS, (0,)), 400)]:
            self.assertEqual(self.check(errors.TooMany, function, given).limit, limit)

    def test_a_call_that_raises_has_no_effect(self):
        given = [0, [5]]
        self.check(errors.InvalidLot, steps.lot_done, (TWICE, given))
        self.assertEqual(given, [0, [5]])
        self.assertEqual(steps.lot_history(TWICE, (0, 5)), (0, 1, 3))
        self.check(errors.InvalidHistory, steps.end_of, (LOOP, (0,) * 61))
        self.assertEqual(steps.end_of(LOOP, (0,)), LOOP)


if __name__ == "__main__":
    unittest.main()
