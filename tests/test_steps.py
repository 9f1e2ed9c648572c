"""Stage 2: steps, what they make, and where its parts come from."""

import unittest

import model
from oncework.errors import TooMany
from oncework.ground import steps
from oncework.ground.steps import is_step, origins, rests, step_done, steps_of
from oncework.ground.terms import (function_of, is_term, kind_of, open_variables, part_end,
                                   part_of)
from samples import (CHAIN, GROWS, GROWS_BOTH_WAYS, GROWS_TO_400, GROWS_TOO_LONG, I, JUNK, LOOP,
                     RAISES, RAISES_TOO_HIGH, TWICE, WORKED, WRONG_STEPS, random_terms)

TERMS = [term for term in WORKED + random_terms(2, 250, 40) if steps_of(term)]
CASES = [(term, place) for term in TERMS for place in steps_of(term)]


class Steps(unittest.TestCase):

    def test_the_example(self):
        self.assertEqual(
            [steps_of(TWICE), step_done(TWICE, 0), origins(TWICE, 0), rests(TWICE, 0, 5),
             step_done(TWICE, 5), rests(TWICE, 5, 0)],
            [(0, 5), (0, 0, -1, 1, -1, 1, 0, -1, 1, -1, 1), (2, 5, 6, 7, 8, 9, 5, 6, 7, 8, 9),
             (1, 6), (0, -1, 0, 1, 1, -1, 1), (0,)])

    def test_constant(self):
        self.assertEqual(steps.MOST_STEPS, 60)

    def test_steps_are_calls_of_functions(self):
        for term in WORKED + random_terms(3, 100, 40):
            wanted = [place for place in range(len(term))
                      if term[place] == 0 and term[place + 1] == -1]
            self.assertEqual(steps_of(term), tuple(wanted))
            for place in range(-2, len(term) + 2):
                self.assertIs(is_step(term, place), place in wanted)

    def test_a_call_of_a_call_or_of_a_variable_is_none(self):
        self.assertEqual(steps_of((0, 1, -1, 1)), ())
        self.assertEqual(steps_of((0, 0, -1, 1, 2, -1, 1)), (1,))
        self.assertEqual(steps_of((1,)), ())

    def test_steps_in_bodies_functions_and_arguments(self):
        term = (0, -1, 0, -1, 1, 1, 0, 0, -1, 1, 2, 0, -1, 3, 4)
        self.assertEqual(steps_of(term), (0, 2, 7, 11))
        self.assertEqual([kind_of(term, place) for place in (0, 2, 7, 11)],
                         ["root", "body", "function", "argument"])

    def test_wrong_values_are_no_steps(self):
        for value in WRONG_STEPS:
            self.assertIs(is_step(TWICE, value), False, repr(value)[:80])
        for value in JUNK + [False, True]:
            self.assertIs(is_step(LOOP, value), False, repr(value)[:80])


class Doing(unittest.TestCase):

    def test_many_steps_as_in_the_tree(self):
        self.assertGreater(len(CASES), 400)
        for term, place in CASES:
            wanted, came = model.done(term, place)
            self.assertEqual(origins(term, place), came)
            self.assertEqual(step_done(term, place), wanted)
            self.assertTrue(is_term(wanted))

    def test_an_argument_that_is_dropped(self):
        self.assertEqual(step_done((0, -1, 5, 0, -1, 1, 1), 0), (4,))
        self.assertEqual(origins((0, -1, 5, 0, -1, 1, 1), 0), (2,))
        for other in range(3, 7):
            self.assertEqual(rests((0, -1, 5, 0, -1, 1, 1), 0, other), ())

    def test_an_argument_that_comes_once(self):
        self.assertEqual(step_done((0, -1, 0, 2, 1, 7), 0), (0, 1, 7))
        self.assertEqual(step_done((0, -1, 1, 7), 0), (7,))
        self.assertEqual(origins((0, -1, 0, 2, 1, 7), 0), (2, 3, 5))

    def test_an_argument_under_further_functions(self):
        # The body has its parameter at three depths, the argument is (-1, 0, 1, 5).
        term = (0, -1, 0, 1, -1, 0, 2, -1, 3, -1, 0, 1, 5)
        self.assertEqual(step_done(term, 0),
                         (0, -1, 0, 1, 5, -1, 0, -1, 0, 1, 6, -1, -1, 0, 1, 7))
        self.assertEqual(rests(term, 0, 9), (1, 7, 12))

    def test_other_variables_of_the_body_become_one_less(self):
        # Bound within the body, of a function outside, and open.
        term = (-1, 0, -1, -1, 0, 0, 1, 3, 9, -1, 1)
        self.assertEqual(step_done(term, 1), (-1, -1, 0, 0, 1, 2, 8))

    def test_a_step_within_a_body_a_function_or_an_argument(self):
        self.assertEqual(step_done((-1, 0, -1, 0, 1, 2, 3), 1), (-1, 0, 3, 1))
        self.assertEqual(step_done((0, 0, -1, 1, 2, 3), 1), (0, 2, 3))
        self.assertEqual(step_done(CHAIN, 3), (0, -1, 1, 2))
        self.assertEqual(origins(CHAIN, 3), (0, 1, 2, 6))

    def test_a_step_need_not_make_the_term_shorter(self):
        self.assertEqual(step_done(LOOP, 0), LOOP)
        self.assertGreater(len(step_done(TWICE, 0)), len(TWICE))

    def test_the_arguments_are_not_changed(self):
        term = tuple(TWICE)
        self.assertEqual(step_done(term, 0), step_done(term, 0))
        self.assertEqual(term, (0, -1, 0, 1, 1, 0, -1, 1, -1, 1))


class Limits(unittest.TestCase):

    def test_a_term_of_400_parts_or_with_1000_can_be_made(self):
        self.assertEqual(len(step_done(GROWS, 0)), 399)
        self.assertEqual(len(step_done(GROWS_TO_400, 0)), 400)
        self.assertEqual(step_done(RAISES, 0), (-1, 1000))

    def test_above_them_too_many(self):
        cases = [(GROWS_TOO_LONG, 400), (RAISES_TOO_HIGH, 1000), (GROWS_BOTH_WAYS, 400)]
        for term, limit in cases:
            with self.assertRaises(TooMany) as caught:
                step_done(term, 0)
            self.assertEqual(caught.exception.limit, limit)

    def test_origins_and_rests_go_on(self):
        self.assertEqual(origins(GROWS_TOO_LONG, 0), (2,) + tuple(range(5, 205)) * 2)
        self.assertEqual(rests(GROWS_TOO_LONG, 0, 204), (200, 400))
        self.assertEqual(origins(RAISES_TOO_HIGH, 0), (2, 4))
        self.assertEqual(rests(RAISES_TOO_HIGH, 0, 4), (1,))
        self.assertEqual(len(origins(GROWS_BOTH_WAYS, 0)), 402)
        # Of 398 parts, with one hundred copies of two hundred parts.
        large = (0, -1) + (0, 1) * 98 + (1,) + (-1,) * 198 + (1,)
        self.assertEqual(len(origins(large, 0)), 98 + 99 * 199)
        self.assertEqual(len(rests(large, 0, 397)), 99)

    def test_variables_of_1000_that_stay(self):
        self.assertEqual(step_done((0, -1, 1, 1000), 0), (1000,))
        self.assertEqual(step_done((0, -1, 1000, 1), 0), (999,))
        self.assertEqual(step_done((0, 1000, 0, -1, 1, 1), 2), (0, 1000, 1))


class Origins(unittest.TestCase):

    def test_the_new_term_fits_part_by_part(self):
        for term, place in CASES:
            made = step_done(term, place)
            came = origins(term, place)
            self.assertEqual(len(made), len(came))
            for at, source in enumerate(came):
                self.assertEqual(min(made[at], 1), min(term[source], 1))
                if made[at] > 0 and function_of(made, at) is not None:
                    own = came[function_of(made, at)]
                    self.assertEqual(function_of(term, source), own)
                elif made[at] > 0:
                    self.assertIsNone(function_of(term, source))

    def test_nothing_comes_from_the_call_the_function_and_the_parameters(self):
        for term, place in CASES:
            gone = [place, place + 1]
            gone += [at for at in range(len(term))
                     if term[at] > 0 and function_of(term, at) == place + 1]
            for other in gone:
                self.assertEqual(rests(term, place, other), ())

    def test_parts_outside_and_of_the_body_come_once_those_of_the_argument_per_parameter(self):
        for term, place in CASES:
            argument = part_end(term, place + 1)
            inside = range(argument, part_end(term, argument))
            uses = [at for at in range(len(term))
                    if term[at] > 0 and function_of(term, at) == place + 1]
            for other in range(len(term)):
                many = len(rests(term, place, other))
                if other in inside:
                    self.assertEqual(many, len(uses))
                elif other not in (place, place + 1) and other not in uses:
                    self.assertEqual(many, 1)

    def test_copies_are_the_argument_raised(self):
        for term, place in CASES:
            start = part_end(term, place + 1)
            argument = part_of(term, start)
            copies = rests(term, place, start)
            made = step_done(term, place)
            for at in copies:
                raised_by = [k for k in range(len(term))
                             if model.raised(argument, k) == part_of(made, at)]
                self.assertTrue(raised_by)
                if open_variables(argument):
                    self.assertEqual(len(raised_by), 1)

    def test_rests_are_what_origins_tell(self):
        for term, place in CASES:
            came = origins(term, place)
            for other in range(len(term)):
                self.assertEqual(rests(term, place, other),
                                 tuple([at for at in range(len(came)) if came[at] == other]))

    def test_rests_of_other_steps_are_steps(self):
        for term, place in CASES:
            made = steps_of(step_done(term, place))
            for other in steps_of(term):
                self.assertTrue(set(rests(term, place, other)) <= set(made))
            self.assertEqual(rests(term, place, place), ())

    def test_each_other_step_is_new(self):
        new = 0
        for term, place in CASES:
            came = origins(term, place)
            for at in steps_of(step_done(term, place)):
                call, function = came[at], came[at + 1]
                self.assertEqual((term[call], term[function]), (0, -1))
                if is_step(term, call):
                    self.assertEqual(function, call + 1)
                else:
                    self.assertNotEqual(function, call + 1)
                    new += 1
        self.assertGreater(new, 20)

    def test_the_rests_of_a_step_outside_are_not_as_many_as_its_copies(self):
        self.assertEqual(len(rests(TWICE, 5, 0)), 1)
        self.assertEqual(len(rests(TWICE, 0, 5)), 2)

    def test_the_first_place_and_the_last_one(self):
        self.assertEqual((rests(TWICE, 5, 0), rests(TWICE, 5, 9)), ((0,), (6,)))
        self.assertEqual((rests(TWICE, 0, 0), rests(TWICE, 0, 9)), ((), (5, 10)))
        term = (0, 3, 0, I[0], I[1], 4)
        self.assertEqual((rests(term, 2, 0), rests(term, 2, 5)), ((0,), (2,)))


if __name__ == "__main__":
    unittest.main()
