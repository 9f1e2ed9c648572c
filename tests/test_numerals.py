"""Stage 8: numerals, and sums, products and powers."""

import unittest

import model
from oncework.errors import InvalidNumber, InvalidTerm, TooMany
from oncework.ground.terms import is_term, open_variables
from oncework.pieces import numerals as module
from oncework.pieces.numerals import numeral, numeral_of, power_term, product_term, sum_term
from oncework.pieces.roots import is_last, last_form, root_length
from samples import I, LONG, LOOP, TOO_LONG, TWICE, lively_terms, random_terms

MADE = (sum_term, product_term, power_term)


class Numerals(unittest.TestCase):

    def test_the_tuple(self):
        self.assertEqual(module.MAX_NUMERAL, 150)
        self.assertEqual(numeral(0), (-1, -1, 1))
        self.assertEqual(numeral(1), (-1, -1, 0, 2, 1))
        self.assertEqual(numeral(3), (-1, -1, 0, 2, 0, 2, 0, 2, 1))
        self.assertEqual(len(numeral(150)), 303)

    def test_all_numerals_are_read_back(self):
        for number in range(151):
            self.assertIs(is_term(numeral(number)), True)
            self.assertIs(is_last(numeral(number)), True)
            self.assertEqual(open_variables(numeral(number)), ())
            self.assertEqual(numeral_of(numeral(number)), number)

    def test_terms_near_to_numerals(self):
        for term in [(1,), I, TWICE, LONG, (-1, 0, 2, 1), (-1, -1, 2), (-1, -1, 3), (-1, -1, -1, 1),
                     (-1, -1, 0, 1, 2), (-1, -1, 0, 1, 1), (-1, -1, 0, 2, 2), (-1, -1, 0, 3, 1),
                     (-1, -1, 0, 0, 2, 1, 1), (-1, -1, 0, 0, 2, 2, 1), (0, 2, 1), (-1, -1, 0, 2, -1, 1),
                     (-1, -1, -1, 0, 2, 1), (-1, 1), (2, ), (-1, -1, 0, 2, 0, 2, 2)]:
            self.assertIsNone(numeral_of(term), term)
        for number in range(12):
            term = numeral(number)
            for at in range(len(term)):
                for part in (-1, 0, 1, 2, 3):
                    near = term[:at] + (part,) + term[at + 1:]
                    if is_term(near) and near != term:
                        self.assertIsNone(numeral_of(near), near)

    def test_it_is_not_stepped(self):
        self.assertIsNone(numeral_of((0,) + I + numeral(2)))
        self.assertIsNone(numeral_of(LOOP))

    def test_a_numeral_above_150_is_one(self):
        self.assertEqual(numeral_of((-1, -1) + (0, 2) * 151 + (1,)), 151)
        self.assertEqual(numeral_of((-1, -1) + (0, 2) * 198 + (1,)), 198)

    def test_errors(self):
        for number in [-1, 151, None, True, False, "1", (1,), [1], 10 ** 60, -10 ** 60]:
            with self.assertRaises(InvalidNumber) as caught:
                numeral(number)
            self.assertIs(caught.exception.given, number)
        for term in [TOO_LONG, None, (), (-1,), [-1, -1, 1], (-1, -1, True), 0]:
            with self.assertRaises(InvalidTerm):
                numeral_of(term)


class Sums(unittest.TestCase):

    def test_by_hand(self):
        self.assertEqual(sum_term((1,), (5,)), (-1, -1, 0, 0, 3, 2, 0, 0, 7, 2, 1))
        self.assertEqual(product_term((1,), (5,)), (-1, 0, 2, 0, 6, 1))
        self.assertEqual(power_term((1,), (5,)), (0, 5, 1))
        self.assertEqual(power_term(I, TWICE), (0,) + TWICE + I)
        self.assertEqual(sum_term(I, (-1, 3)), (-1, -1, 0, 0, -1, 1, 2, 0, 0, -1, 5, 2, 1))

    def test_terms_with_open_variables(self):
        terms = random_terms(91, 40, 20) + lively_terms(92, 40, 20)
        for one, other in zip(terms, reversed(terms)):
            low, high = model.raised(one, 2), model.raised(other, 2)
            self.assertEqual(sum_term(one, other),
                             (-1, -1, 0, 0) + low + (2, 0, 0) + high + (2, 1))
            low, high = model.raised(one, 1), model.raised(other, 1)
            self.assertEqual(product_term(one, other), (-1, 0) + low + (0,) + high + (1,))
            self.assertEqual(power_term(one, other), (0,) + other + one)
            opened = set(open_variables(one)) | set(open_variables(other))
            for make in MADE:
                self.assertIs(is_term(make(one, other)), True)
                self.assertEqual(open_variables(make(one, other)), tuple(sorted(opened)))

    def test_sums_and_products_of_numerals(self):
        for m in range(9):
            for n in range(9):
                added = sum_term(numeral(m), numeral(n))
                self.assertEqual(last_form(added), numeral(m + n))
                self.assertEqual(root_length(added), 4)
                times = product_term(numeral(m), numeral(n))
                self.assertEqual(last_form(times), numeral(m * n))
                self.assertEqual(root_length(times), 2 * m + 1)
        self.assertEqual(last_form(sum_term(numeral(90), numeral(60))), numeral(150))
        self.assertEqual(last_form(product_term(numeral(10), numeral(15))), numeral(150))

    def test_powers_of_numerals(self):
        for m in range(5):
            for n in range(1, 4):
                made = power_term(numeral(m), numeral(n))
                try:
                    self.assertEqual(last_form(made), numeral(m ** n))
                except TooMany as error:
                    self.assertGreater(m ** n, 50)
                    self.assertIn(error.limit, (60, 400))
        self.assertEqual(last_form(power_term(numeral(2), numeral(4))), numeral(16))

    def test_a_power_with_none(self):
        for m in range(6):
            self.assertEqual(last_form(power_term(numeral(m), numeral(0))), I)
            self.assertIsNone(numeral_of(last_form(power_term(numeral(m), numeral(0)))))

    def test_terms_that_are_led_to_numerals(self):
        two = sum_term(numeral(1), numeral(1))
        three = (0,) + I + numeral(3)
        self.assertEqual(numeral_of(last_form(sum_term(two, three))), 5)
        self.assertEqual(numeral_of(last_form(product_term(two, three))), 6)
        self.assertEqual(numeral_of(last_form(power_term(three, two))), 9)
        self.assertEqual(numeral_of(last_form(sum_term(product_term(two, two), three))), 7)

    def test_400_parts_and_1000(self):
        def longest(size):
            return (-1,) * (size - 1) + (1,)

        for make, more in [(sum_term, 9), (product_term, 4), (power_term, 1)]:
            made = make(longest(200), longest(200 - more))
            self.assertEqual(len(made), 400)
            for one, other in [(longest(200), longest(201 - more)), (LONG, (1,)), ((1,), LONG)]:
                with self.assertRaises(TooMany) as caught:
                    make(one, other)
                self.assertEqual(caught.exception.limit, 400)
        for make, raised in [(sum_term, 2), (product_term, 1), (power_term, 0)]:
            self.assertEqual(max(make((1000 - raised,), I)), 1000)
            self.assertEqual(max(make(I, (-1, 1000 - raised))), 1000)
            for one, other in [((1001 - raised,), I), (I, (1001 - raised,))] if raised else []:
                with self.assertRaises(TooMany) as caught:
                    make(one, other)
                self.assertEqual(caught.exception.limit, 1000)
            if raised:
                with self.assertRaises(TooMany) as caught:
                    make((1000,), LONG)
                self.assertEqual(caught.exception.limit, 400)

    def test_errors(self):
        for make in MADE:
            for wrong in [TOO_LONG, None, (), (0, 1), [-1, 1], (True,), 1]:
                with self.assertRaises(InvalidTerm):
                    make(wrong, I)
                with self.assertRaises(InvalidTerm):
                    make(I, wrong)
                with self.assertRaises(InvalidTerm):
                    make(LONG, wrong)


if __name__ == "__main__":
    unittest.main()
