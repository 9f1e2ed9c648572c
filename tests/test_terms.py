"""Stage 1: what is a term, how its parts hold one another, and making terms."""

import itertools
import unittest

import model
from oncework.errors import InvalidOperation, TooMany
from oncework.ground import terms
from oncework.ground.shapes import is_whole
from oncework.ground.terms import (called, depth_of, function_of, function_with, holder_of, is_term,
                                   kind_of, level_of, open_variables, part_end, part_of,
                                   raised_term, variables_of)
from samples import (CHAIN, COPY, DEEP, I, LONG, TOO_LONG, TWICE, WORKED, WRONG_TERMS,
                     random_terms)

RANDOM = random_terms(1, 150, 40)


class Terms(unittest.TestCase):

    def test_the_example(self):
        self.assertEqual(
            [is_term(TWICE), is_term((0, 1)), is_term((0, -1, 1, 2)), part_end(TWICE, 1),
             part_of(TWICE, 5), holder_of(TWICE, 5), kind_of(TWICE, 5), kind_of(TWICE, 1)],
            [True, False, True, 5, (0, -1, 1, -1, 1), 0, "argument", "function"])

    def test_constants(self):
        self.assertEqual((terms.MAX_PARTS, terms.MAX_VARIABLE), (400, 1000))

    def test_worked_and_random_terms_are_terms(self):
        for term in WORKED + RANDOM + [LONG]:
            self.assertIs(is_term(term), True)

    def test_wrong_values_are_none(self):
        for value in WRONG_TERMS:
            self.assertIs(is_term(value), False, repr(value)[:80])

    def test_edges_of_size(self):
        self.assertEqual((len(LONG), len(TOO_LONG)), (400, 401))
        self.assertIs(is_term(LONG), True)
        self.assertIs(is_term(TOO_LONG), False)
        self.assertIs(is_term((-1,) + (0, 1) * 199 + (1,)), True)
        self.assertIs(is_term((0, 1) * 200 + (1,)), False)
        self.assertIs(is_term((1000,)), True)
        self.assertIs(is_term((1001,)), False)
        self.assertIs(is_term((0, 1000, -1, 1000)), True)
        self.assertIs(is_term((0, 1, -1, 1001)), False)

    def test_all_short_tuples_as_counting_tells(self):
        for length in range(7):
            for value in itertools.product((-1, 0, 1, 2), repeat=length):
                calls = value.count(0)
                variables = len([part for part in value if part > 0])
                fits = calls == variables - 1 and all(
                    value[:k].count(0) >= len([part for part in value[:k] if part > 0])
                    for k in range(length))
                self.assertIs(is_term(value), fits, value)

    def test_a_beginning_need_not_be_a_term(self):
        for k in range(len(TWICE)):
            self.assertIs(is_term(TWICE[:k]), False)

    def test_integers_have_at_most_60_digits(self):
        for value in [0, 1, -1, 10 ** 60 - 1, -10 ** 60 + 1]:
            self.assertIs(is_whole(value), True)
        for value in [True, False, None, "1", (1,), 10 ** 60, -10 ** 60, 10 ** 219]:
            self.assertIs(is_whole(value), False)


class Parts(unittest.TestCase):

    def test_each_part_of_many_terms_as_in_the_tree(self):
        for term in WORKED + RANDOM + [LONG]:
            told = {place: (part_end(term, place), holder_of(term, place), kind_of(term, place),
                            depth_of(term, place), level_of(term, place))
                    for place in range(len(term))}
            wanted = {place: fact[:5] for place, fact in model.facts(term).items()}
            self.assertEqual(told, wanted)

    def test_parts_are_terms_that_stand_side_by_side(self):
        for term in WORKED + RANDOM:
            for place in range(len(term)):
                part = part_of(term, place)
                self.assertTrue(is_term(part))
                self.assertEqual(part, term[place:place + len(part)])
                self.assertEqual(part_end(term, place), place + len(part))

    def test_the_first_place_and_the_last_one(self):
        self.assertEqual((part_end(TWICE, 0), part_end(TWICE, 9)), (10, 10))
        self.assertEqual((part_of(TWICE, 0), part_of(TWICE, 9)), (TWICE, (1,)))
        self.assertEqual((holder_of(TWICE, 0), holder_of(TWICE, 9)), (None, 8))
        self.assertEqual((kind_of(TWICE, 0), kind_of(TWICE, 9)), ("root", "body"))
        self.assertEqual((depth_of(TWICE, 0), depth_of(TWICE, 9)), (0, 1))
        self.assertEqual((level_of(TWICE, 0), level_of(TWICE, 9)), (0, 2))
        self.assertEqual((part_end(LONG, 399), depth_of(LONG, 399)), (400, 399))

    def test_a_function_is_not_around_itself_and_an_argument_is_in_itself(self):
        self.assertEqual([depth_of(I, place) for place in range(2)], [0, 1])
        self.assertEqual([level_of((0, 1, 2), place) for place in range(3)], [0, 0, 1])
        self.assertEqual([level_of(CHAIN, place) for place in range(7)], [0, 0, 0, 1, 1, 1, 2])

    def test_a_level_can_be_more_than_a_depth(self):
        self.assertGreater(level_of(CHAIN, 6), depth_of(CHAIN, 6))


class Variables(unittest.TestCase):

    def test_each_variable_as_in_the_tree(self):
        for term in WORKED + RANDOM + [LONG]:
            for place, fact in model.facts(term).items():
                if term[place] > 0:
                    self.assertEqual(function_of(term, place), fact[5])

    def test_each_variable_is_open_or_of_one_function(self):
        for term in WORKED + RANDOM:
            functions = [place for place in range(len(term)) if term[place] == -1]
            owned = [at for place in functions for at in variables_of(term, place)]
            free = [at for at in range(len(term))
                    if term[at] > 0 and function_of(term, at) is None]
            self.assertEqual(sorted(owned + free),
                             [at for at in range(len(term)) if term[at] > 0])
            for place in functions:
                self.assertEqual(list(variables_of(term, place)), sorted(variables_of(term, place)))
                for at in variables_of(term, place):
                    self.assertEqual(function_of(term, at), place)

    def test_variables_of_by_hand(self):
        self.assertEqual(variables_of(COPY, 0), (2, 3))
        self.assertEqual(variables_of(DEEP, 0), (8, 13))
        self.assertEqual(variables_of(DEEP, 2), (6,))
        self.assertEqual(variables_of(DEEP, 3), ())
        self.assertEqual([function_of(DEEP, at) for at in (6, 7, 8, 11, 13, 14)],
                         [2, None, 0, None, 0, None])

    def test_part_of_another_kind(self):
        for term in WORKED:
            for place, part in enumerate(term):
                if part < 1:
                    with self.assertRaises(InvalidOperation):
                        function_of(term, place)
                if part != -1:
                    with self.assertRaises(InvalidOperation):
                        variables_of(term, place)

    def test_a_function_between_stands_around_the_variable(self):
        for term in RANDOM:
            for at, part in enumerate(term):
                if part > 1 and function_of(term, at) is not None:
                    own = function_of(term, at)
                    around = [place for place in range(own + 1, at)
                              if term[place] == -1 and part_end(term, place) > at]
                    self.assertEqual(len(around), part - 1)


class OpenVariables(unittest.TestCase):

    def test_open_variables_as_in_the_tree(self):
        for term in WORKED + RANDOM + [LONG]:
            self.assertEqual(open_variables(term), model.open_numbers(term))

    def test_each_number_once_and_ascending(self):
        self.assertEqual(open_variables((0, 9, 0, 2, 0, -1, 3, 9)), (2, 9))
        self.assertEqual(open_variables((0, -1, 1, 2)), (2,))
        self.assertEqual(open_variables((-1, -1, 1000)), (998,))
        self.assertEqual(open_variables(I), ())

    def test_equal_parts_can_have_unlike_open_variables(self):
        term = (0, 1, -1, 1)
        self.assertEqual(part_of(term, 1), part_of(term, 3))
        self.assertEqual((function_of(term, 1), function_of(term, 3)), (None, 2))

    def test_raised_as_in_the_tree(self):
        for term in WORKED + RANDOM:
            for number in (0, 1, 7, 500):
                if max(model.raised(term, number)) <= 1000:
                    self.assertEqual(raised_term(term, number), model.raised(term, number))

    def test_edges_of_raising(self):
        self.assertEqual(raised_term((1000,), 0), (1000,))
        self.assertEqual(raised_term(LONG, 1000), LONG)
        self.assertEqual(raised_term((-1, 2), 998), (-1, 1000))
        for term, number in [((1000,), 1), ((-1, 2), 999), ((1,), 1000), ((0, 1, 1000), 1)]:
            with self.assertRaises(TooMany) as caught:
                raised_term(term, number)
            self.assertEqual(caught.exception.limit, 1000)


class Making(unittest.TestCase):

    def test_called(self):
        self.assertEqual(called(I, (2,)), (0, -1, 1, 2))
        self.assertEqual(called(COPY, called(I, I)), TWICE)
        for one, other in zip(RANDOM, reversed(RANDOM)):
            term = called(one, other)
            self.assertTrue(is_term(term))
            self.assertEqual(part_of(term, 1), one)
            self.assertEqual(part_of(term, 1 + len(one)), other)

    def test_function_with(self):
        self.assertEqual(function_with((1,)), I)
        self.assertEqual(function_with(TWICE), (-1,) + TWICE)
        self.assertEqual(function_with((3,)), (-1, 3))

    def test_edges_of_making(self):
        self.assertEqual(len(called(LONG[2:], (1,))), 400)
        self.assertEqual(len(function_with(LONG[1:])), 400)
        for make, given in [(called, (LONG[1:], (1,))), (called, ((1,), LONG[1:])),
                            (called, (LONG, LONG)), (function_with, (LONG,))]:
            with self.assertRaises(TooMany) as caught:
                make(*given)
            self.assertEqual(caught.exception.limit, 400)


if __name__ == "__main__":
    unittest.main()
