"""Wrong inputs of every kind, for each function, and which error comes first."""

import unittest

from oncework import errors
from oncework.ground import steps, terms
from samples import (GROWS_BOTH_WAYS, GROWS_TOO_LONG, I, JUNK, LONG, LOOP, RAISES_TOO_HIGH, TWICE,
                     WRONG_HISTORIES, WRONG_LOTS, WRONG_NUMBERS, WRONG_PLACES, WRONG_STEPS,
                     WRONG_TERMS)

# For each kind of parameter a right value for TWICE, the wrong ones, and their error.
KINDS = {
    "term": (TWICE, WRONG_TERMS, errors.InvalidTerm),
    "place": (5, WRONG_PLACES, errors.InvalidPlace),
    "step": (5, WRONG_STEPS, errors.InvalidPlace),
    "history": ((0, 1), WRONG_HISTORIES, errors.InvalidHistory),
    "lot": ((0, 5), WRONG_LOTS, errors.InvalidLot),
    "number": (7, WRONG_NUMBERS, errors.InvalidNumber),
}

# The kinds of the parameters of each function of the interface that raises errors.
FUNCTIONS = [
    (terms.part_end, ("term", "place")), (terms.part_of, ("term", "place")),
    (terms.holder_of, ("term", "place")), (terms.kind_of, ("term", "place")),
    (terms.depth_of, ("term", "place")), (terms.level_of, ("term", "place")),
    (terms.open_variables, ("term",)), (terms.raised_term, ("term", "number")),
    (terms.called, ("term", "term")), (terms.function_with, ("term",)),
    (steps.steps_of, ("term",)), (steps.step_done, ("term", "step")),
    (steps.origins, ("term", "step")), (steps.rests, ("term", "step", "place")),
    (steps.end_of, ("term", "history")), (steps.rests_behind, ("term", "history", "place")),
    (steps.lot_history, ("term", "lot")), (steps.lot_done, ("term", "lot")),
]
JUDGES = [steps.is_step, steps.is_history, steps.is_lot]

# These two have further errors for the place 5, so a right place is told for each.
OF_A_PART = [(terms.function_of, 3), (terms.variables_of, 6)]


class Checks(unittest.TestCase):

    def check(self, error, function, given):
        with self.assertRaises(error, msg=repr((function.__name__, given))[:200]) as caught:
            function(*given)
        self.assertIs(caught.exception.__class__, error)
        return caught.exception


class Wrong(Checks):

    def test_one_wrong_argument(self):
        for function, kinds in FUNCTIONS:
            right = [KINDS[kind][0] for kind in kinds]
            function(*right)
            for at, kind in enumerate(kinds):
                for value in KINDS[kind][1]:
                    given = right[:at] + [value] + right[at + 1:]
                    error = self.check(KINDS[kind][2], function, given)
                    if kind == "number":
                        self.assertIs(error.given, value)

    def test_of_two_wrong_arguments_the_first_one_decides(self):
        for function, kinds in FUNCTIONS:
            right = [KINDS[kind][0] for kind in kinds]
            for first in range(len(kinds)):
                for second in range(first + 1, len(kinds)):
                    for one in KINDS[kinds[first]][1][::7]:
                        for other in KINDS[kinds[second]][1][::7]:
                            given = list(right)
                            given[first], given[second] = one, other
                            self.check(KINDS[kinds[first]][2], function, given)

    def test_the_kind_of_a_part(self):
        for function, place in OF_A_PART:
            function(TWICE, place)
            for value in WRONG_TERMS:
                self.check(errors.InvalidTerm, function, (value, place))
                self.check(errors.InvalidTerm, function, (value, 0))
                self.check(errors.InvalidTerm, function, (value, None))
            for value in WRONG_PLACES:
                self.check(errors.InvalidPlace, function, (TWICE, value))
            self.check(errors.InvalidOperation, function, (TWICE, 0))
            self.check(errors.InvalidOperation, function, (TWICE, 9 - place))
        self.check(errors.InvalidOperation, terms.function_of, (TWICE, 8))
        self.check(errors.InvalidOperation, terms.variables_of, (TWICE, 9))

    def test_functions_that_judge_accept_every_value(self):
        for judge in JUDGES:
            for value in WRONG_TERMS:
                for judged in (0, (), (0,), None, True):
                    self.check(errors.InvalidTerm, judge, (value, judged))
            for value in JUNK + WRONG_TERMS + WRONG_PLACES:
                self.assertIn(judge(TWICE, value), (True, False))
                self.assertIsInstance(judge(TWICE, value), bool)
        for value in JUNK + WRONG_TERMS:
            self.assertIs(terms.is_term(value), False)

    def test_judges_judge_the_right_values(self):
        right = {steps.is_step: [0, 5], steps.is_history: [(), (0,), (5, 0), (0, 1, 3)],
                 steps.is_lot: [(), (0,), (5,), (0, 5)]}
        for judge, values in right.items():
            for value in values:
                self.assertIs(judge(TWICE, value), True)

    def test_lists_do_not_stand_for_tuples(self):
        self.check(errors.InvalidTerm, terms.part_end, (list(TWICE), 0))
        self.check(errors.InvalidTerm, terms.called, (I, list(I)))
        self.check(errors.InvalidHistory, steps.end_of, (TWICE, [0]))
        self.check(errors.InvalidHistory, steps.end_of, (TWICE, []))
        self.check(errors.InvalidLot, steps.lot_done, (TWICE, [0, 5]))
        self.check(errors.InvalidLot, steps.lot_done, (TWICE, []))
        self.assertIs(steps.is_history(TWICE, []), False)
        self.assertIs(steps.is_lot(TWICE, []), False)

    def test_booleans_are_no_integers(self):
        self.check(errors.InvalidTerm, terms.part_end, ((0, True, 1), 0))
        self.check(errors.InvalidTerm, terms.part_end, ((False, 1, 1), 0))
        self.check(errors.InvalidPlace, terms.part_end, (TWICE, False))
        self.check(errors.InvalidPlace, terms.part_end, (TWICE, True))
        self.check(errors.InvalidPlace, steps.step_done, (TWICE, False))
        self.check(errors.InvalidPlace, steps.rests, (TWICE, 0, True))
        self.check(errors.InvalidNumber, terms.raised_term, (TWICE, False))
        self.check(errors.InvalidHistory, steps.end_of, (TWICE, (False,)))
        self.check(errors.InvalidHistory, steps.end_of, (TWICE, (0, True)))
        self.check(errors.InvalidLot, steps.lot_done, (TWICE, (False, 5)))

    def test_numbers_to_raise_by(self):
        for number in (0, 1000):
            self.assertEqual(terms.raised_term(TWICE, number), TWICE)
        for number in (-1, 1001, 10 ** 60 - 1, 10 ** 60):
            self.assertIs(self.check(errors.InvalidNumber, terms.raised_term,
                                     (TWICE, number)).given, number)


class Then(Checks):
    """An error behind the word "then" comes only if no earlier one does."""

    def test_too_large_a_result_comes_last(self):
        self.assertEqual(self.check(errors.InvalidNumber, terms.raised_term,
                                    ((1000,), 1001)).given, 1001)
        self.check(errors.InvalidTerm, terms.raised_term, ((1001,), 1))
        self.check(errors.InvalidTerm, terms.called, (LONG, LONG + (1,)))
        self.check(errors.InvalidTerm, terms.called, (LONG, None))
        self.check(errors.InvalidTerm, terms.function_with, ((-1,) + LONG,))
        for term in (GROWS_TOO_LONG, RAISES_TOO_HIGH, GROWS_BOTH_WAYS):
            self.check(errors.TooMany, steps.step_done, (term, 0))
            self.check(errors.InvalidPlace, steps.step_done, (term, 1))
            self.check(errors.InvalidPlace, steps.rests, (term, 0, len(term)))
            self.check(errors.TooMany, steps.lot_done, (term, (0,)))
            self.check(errors.InvalidLot, steps.lot_done, (term, (0, 0)))
            self.check(errors.InvalidLot, steps.lot_history, (term, (0, 1)))
            self.check(errors.InvalidHistory, steps.rests_behind, (term, (0,), None))

    def test_the_limit_is_kept(self):
        for function, given, limit in [
                (terms.raised_term, ((1000,), 1), 1000), (terms.function_with, (LONG,), 400),
                (terms.called, (LONG, LONG), 400), (steps.step_done, (GROWS_TOO_LONG, 0), 400),
                (steps.step_done, (RAISES_TOO_HIGH, 0), 1000),
                (steps.step_done, (GROWS_BOTH_WAYS, 0), 400),
                (steps.lot_done, (GROWS_BOTH_WAYS, (0,)), 400)]:
            self.assertEqual(self.check(errors.TooMany, function, given).limit, limit)

    def test_a_call_that_raises_has_no_effect(self):
        given = [0, [5]]
        self.check(errors.InvalidLot, steps.lot_done, (TWICE, given))
        self.assertEqual(given, [0, [5]])
        self.assertEqual(steps.lot_history(TWICE, (0, 5)), (0, 1, 3))
        self.check(errors.InvalidHistory, steps.end_of, (LOOP, (0,) * 61))
        self.assertEqual(steps.end_of(LOOP, (0,)), LOOP)


if __name__ == "__main__":
    unittest.main()
