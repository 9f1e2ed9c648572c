"""Stage 13: the reader, which reads the last form without doing a step."""

import random
import unittest

import meanings
import meanings_walks as model
from oncework.errors import InvalidNumber, InvalidOperation, InvalidTerm, TooMany
from oncework.paths import reader as module
from oncework.paths.reader import edges_gone, read_at, read_form, read_front
from oncework.pieces.numerals import numeral, numeral_of, power_term, product_term, sum_term
from oncework.pieces.roots import is_last, last_form, root_length
from samples import (CHAIN, COPY, DEEP, DOUBLE, FORTY, FORTY_ONE, I, LEVELS, LOOP, SIXTY_BY_PIECES,
                     TWICE, lively_terms, random_terms)

# It gives a thing to the open variable 5 twice, one function further in; and so often.
BOTH = (-1, 0, 0, 6, 1, 1)


def both_times(many):
    return (0, -1) + (0, 1) * many + (10,) + BOTH


# The reader goes along just 3997 edges; each function around it takes one more.
LONG_WAY = (0, 0, 0, 0, -1, -1, 0, 2, 1, -1, -1, 0, 2, 0, 2, 0, 2, 1, -1, -1, 0, 2, 0, 2, 0, 2, 0, 2,
            1, -1, 0, -1, 1, 1, 5)

# The last form is the variable 9 given something twelve times in one another.
TWELVE = (0, 9) * 12 + (9,)


def with_size(more):
    """A term whose last form has 397 parts and so many more, of which the first one has all."""
    return ((0, -1, 0, -1, 0, 0, 0, 0, 9, 0, 2, 1, 1, 0, 2, 0, 2, 6) + (-1,) * more
            + (1, 0, 1, 0, 1, 0, 1, 0, 1, 0, 1, 6) + BOTH)


# The last form of this one has 397 parts.
NEARLY = (0, -1, 0, 1, 0, 1, -1, 0, 2, -1, 0, 3, 20) + (-1, -1, -1, -1, 0, 0, 0, 9, 4, 4, 4)

WORKED = [TWICE, CHAIN, DOUBLE, DEEP, I, COPY, (1,), (7,), (-1, 7), (0, 1, 2), (-1, -1, 0, 2, 0, 1, 1),
          (0, -1, -1, 0, 2, 1, 7), (0, 0, -1, -1, 0, 1, 2, 5, 6)] + [
              numeral(n) for n in range(5)] + [
              power_term(numeral(m), numeral(n)) for m in range(4) for n in range(4)] + [
              product_term(numeral(m), numeral(n)) for m in range(4) for n in range(3)]
LIVELY = lively_terms(131, 700, 30) + random_terms(131, 200, 30)
LIVELY = [term for term in LIVELY if len(term) <= 40]


def form_or_limit(term):
    try:
        return read_form(term)
    except TooMany as e:
        return e.limit


class Checks(unittest.TestCase):

    def refused(self, limit, function, *given):
        with self.assertRaises(TooMany) as caught:
            function(*given)
        self.assertEqual(caught.exception.limit, limit)


class Fronts(Checks):

    def test_fronts_of_head_forms(self):
        kinds = set()
        for term in WORKED + LIVELY:
            try:
                wanted = model.head_front(term, 40)
            except meanings.TooBig:
                continue
            if wanted is not None:
                self.assertEqual(read_front(term), wanted)
                k, n, m = wanted
                kinds.add((k > 0, n > k, m > 0))
        self.assertEqual(len(kinds), 6)

    def test_by_hand(self):
        self.assertEqual(read_front(TWICE), (1, 1, 0))
        self.assertEqual(read_front(DEEP), (2, 5, 2))
        self.assertEqual(read_front((1,)), (0, 1, 0))
        self.assertEqual(read_front((-1, -1, 0, 0, 2, 7, 1)), (2, 2, 2))
        # An open variable at the head, in the argument of a step.
        self.assertEqual(read_front((0, -1, -1, 0, 2, 1, 7)), (1, 8, 1))
        self.assertEqual(read_front((0, -1, -1, 2, 1000)), (1, 1001, 0))
        self.assertEqual(read_front((-1, 0, -1, 0, 2, 1, 7)), (1, 1, 1))

    def test_terms_without_a_head_form(self):
        for term in [LOOP, (-1,) + LOOP, (0,) + LOOP + (1,), (0, -1, 0, 1, 1, -1, 0, 0, 1, 1, 1)]:
            self.assertIsNone(model.head_front(term, 12))
            self.refused(4000, read_front, term)
            self.refused(4000, edges_gone, term, ())
            self.refused(4000, read_form, term)

    def test_a_front_without_a_last_form(self):
        term = (0, 5) + LOOP
        self.assertEqual(read_front(term), (0, 5, 1))
        self.refused(4000, read_at, term, (0,))
        self.refused(4000, read_form, term)

    def test_edges_by_the_rules_one_by_one(self):
        self.assertEqual(edges_gone((1,), ()), 1)
        # Down to the root, to the body, up above the function.
        self.assertEqual(edges_gone(I, ()), 3)
        self.assertEqual(edges_gone((-1, 7), ()), 2)
        self.assertEqual(edges_gone((0, 5, 6), ()), 2)
        # Turned round, up above the open variable, to the argument.
        self.assertEqual(edges_gone((0, 5, 6), (0,)), 4)
        for term in WORKED + LIVELY[:500]:
            reader = model.Reader(term)
            try:
                reader.read()
            except meanings.TooBig:
                self.refused(4000, edges_gone, term, ())
                continue
            if reader.gone <= 4000:
                self.assertEqual(edges_gone(term, ()), reader.gone)
                self.assertEqual(read_front(term), reader.front())

    def test_an_edge_is_gone_more_than_once(self):
        self.assertGreater(edges_gone(LONG_WAY, ()), 50 * 2 * len(LONG_WAY))

    def test_4000_edges_and_more(self):
        self.assertEqual(edges_gone(LONG_WAY, ()), 3997)
        term = (-1,) * 3 + LONG_WAY
        self.assertEqual(edges_gone(term, ()), 4000)
        self.assertEqual(read_front(term), (3, 5, 0))
        self.assertEqual(read_at(term, ()), (3, 5, 0))
        self.assertEqual(read_form(term), (-1, -1, -1, 5))
        term = (-1,) * 4 + LONG_WAY
        for function, given in [(read_front, ()), (read_at, ((),)), (edges_gone, ((),)),
                                (read_form, ())]:
            self.refused(4000, function, term, *given)
        reader = model.Reader(term)
        reader.read()
        self.assertEqual(reader.gone, 4001)

    def test_edges_count_in_all_along_a_path(self):
        # The head takes most of the edges, and the argument further ones.
        term = (-1, 0) + LONG_WAY[:-1] + (7, 8)
        self.assertEqual(edges_gone(term, ()), 3999)
        self.assertEqual(read_front(term), (1, 7, 1))
        # It is turned round, goes up, and down to the argument.
        self.refused(4000, edges_gone, term, (0,))
        self.refused(4000, read_at, term, (0,))
        with self.assertRaises(InvalidNumber):
            read_at(term, (1,))


class Paths(Checks):

    def test_fronts_at_paths_of_last_forms(self):
        many = deep = below = 0
        for term in WORKED + LIVELY:
            form = form_or_limit(term)
            if not isinstance(form, tuple):
                continue
            for path, place in model.paths_of(form, 12):
                functions, variable, calls = read_at(term, path)
                k, m = 0, 0
                while form[place + k] == -1:
                    k += 1
                while form[place + k + m] == 0:
                    m += 1
                self.assertEqual((functions, variable, calls), (k, form[place + k + m], m))
                reader = model.reader_at(term, path)
                self.assertEqual(reader.front(), (functions, variable, calls))
                self.assertEqual(edges_gone(term, path), reader.gone)
                many += 1
                deep += len(path) > 2
                below += k > 0 and variable > k and len(path) > 1
                with self.assertRaises(InvalidNumber) as caught:
                    read_at(term, path[:11] + (calls,) if len(path) < 12 else path[:11] + (10 ** 59,))
                self.assertIsInstance(caught.exception.given, int)
        self.assertGreater(many, 1500)
        self.assertGreater(deep, 100)
        self.assertGreater(below, 10)

    def test_an_index_at_m_and_below(self):
        term = (0, 0, 5, -1, 1, -1, -1, 2)
        self.assertEqual(read_at(term, ()), (0, 5, 2))
        self.assertEqual(read_at(term, (0,)), (1, 1, 0))
        self.assertEqual(read_at(term, (1,)), (2, 2, 0))
        for path, given in [((2,), 2), ((10 ** 60 - 1,), 10 ** 60 - 1), ((0, 0), 0), ((1, 3), 3),
                            ((2, 7), 2), ((7, 2), 7)]:
            for function in (read_at, edges_gone):
                with self.assertRaises(InvalidNumber) as caught:
                    function(term, path)
                self.assertEqual(caught.exception.given, given)

    def test_whichever_error_comes_first_along_the_path(self):
        # The argument 0 of the variable has no head form, the argument 1 has no argument.
        term = (0, 0, 5) + LOOP + (6,)
        self.refused(4000, read_at, term, (0, 9))
        self.refused(4000, edges_gone, term, (0, 0))
        for path, given in [((2, 0), 2), ((1, 0), 0), ((1, 5), 5)]:
            with self.assertRaises(InvalidNumber) as caught:
                read_at(term, path)
            self.assertEqual(caught.exception.given, given)
        for path in [(0, -1), (0,) * 13, [0], None, (True,), (0, None), (10 ** 60,), 0, "0"]:
            for function in (read_at, edges_gone):
                with self.assertRaises(InvalidOperation):
                    function(LOOP, path)
                with self.assertRaises(InvalidTerm):
                    function(FORTY_ONE, path)
        self.refused(4000, read_at, LOOP, (0,) * 12)

    def test_paths_of_12_indexes_and_of_13(self):
        self.assertEqual(read_at(TWELVE, (0,) * 12), (0, 9, 0))
        self.assertEqual(read_at(numeral(12), (0,) * 12), (0, 1, 0))
        self.assertEqual(read_at(numeral(12), (0,) * 11), (0, 2, 1))
        self.assertEqual(read_form(TWELVE), TWELVE)
        with self.assertRaises(InvalidOperation):
            read_at((0, 9) + TWELVE, (0,) * 13)
        self.assertEqual(read_at((0, 9) + TWELVE, (0,) * 12), (0, 9, 1))
        self.refused(12, read_form, (0, 9) + TWELVE)
        self.refused(12, read_form, numeral(13))
        self.assertEqual((module.MAX_GONE, module.MAX_ASKED), (4000, 12))

    def test_the_marks_of_several_indexes(self):
        # Each argument has a function, and its variable refers to each of the functions.
        term = (-1, 0, 1, -1, 0, 1, -1, 0, 1, 0, 2, 3)
        self.assertEqual(read_form(term), term)
        given = (0, -1) + term + I
        self.assertEqual(read_form(given), term)
        self.assertEqual([read_at(term, (0,) * many) for many in range(4)],
                         [(1, 1, 1), (1, 1, 1), (1, 1, 1), (0, 2, 1)])


class Forms(Checks):

    def test_the_last_form_of_plain_steps(self):
        many = 0
        for term in WORKED + LIVELY:
            form = form_or_limit(term)
            try:
                last = last_form(term)
            except TooMany:
                continue
            if isinstance(form, tuple):
                self.assertEqual(form, last)
                self.assertIs(is_last(form), True)
                many += 1
        self.assertGreater(many, 600)

    def test_by_the_fronts_of_all_paths_in_their_order(self):
        limits = set()
        for term in WORKED[:30] + LIVELY[::4] + [both_times(7), both_times(13), with_size(2)]:
            form = form_or_limit(term)
            self.assertEqual(form, model.read_form(term))
            if isinstance(form, int):
                limits.add(form)
        self.assertEqual(limits, {12, 400, 4000})

    def test_what_takes_more_than_60_steps(self):
        for term, last in [(LEVELS[10:], I), (SIXTY_BY_PIECES, None)]:
            self.refused(60, last_form, term)
            self.refused(60, root_length, term)
            form = read_form(term)
            if last is not None:
                self.assertEqual(form, last)
            else:
                # From within it is reached in fewer steps.
                now = term
                for _ in range(200):
                    places = meanings.steps(now)
                    if not places:
                        break
                    now = model.step(now, places[-1])
                self.assertEqual(form, now)

    def test_numerals_given_to_one_another(self):
        for m in range(4):
            for n in range(1, 4):
                if m ** n <= 10:
                    self.assertEqual(numeral_of(read_form(power_term(numeral(m), numeral(n)))), m ** n)
                if m * n <= 12:
                    self.assertEqual(numeral_of(read_form(product_term(numeral(m), numeral(n)))), m * n)
                self.assertEqual(numeral_of(read_form(sum_term(numeral(m), numeral(n)))), m + n)
        self.assertEqual(read_form(power_term(numeral(2), numeral(0))), (-1, 1))
        self.assertEqual(numeral_of(read_form(product_term(numeral(3), numeral(4)))), 12)
        self.refused(12, read_form, product_term(numeral(3), numeral(5)))
        self.refused(12, read_form, power_term(numeral(4), numeral(2)))

    def test_400_parts_and_more(self):
        for more, size in [(1, 398), (2, 399), (3, 400)]:
            self.assertEqual(len(read_form(with_size(more))), size)
        self.assertEqual(len(with_size(4)), 40)
        self.refused(400, read_form, with_size(4))
        self.refused(400, read_form, both_times(7))
        self.assertEqual(len(read_form(both_times(6))), 253)

    def test_variables_of_1000_and_above(self):
        self.assertEqual(read_form((0, -1, -1, 2, 999)), (-1, 1000))
        self.refused(1000, read_form, (0, -1, -1, 2, 1000))
        self.assertEqual(read_at((0, -1, -1, 2, 1000), ()), (1, 1001, 0))
        # It is looked at behind all parts.
        self.refused(4000, read_form, (0, 0, 5, 0, -1, -1, 2, 1000) + LOOP)
        self.refused(12, read_form, (0, 0, 5, 0, -1, -1, 2, 1000) + TWELVE)

    def test_whichever_error_comes_first_along_the_paths(self):
        self.refused(12, read_form, (0, 0, 9) + TWELVE + LOOP)
        self.refused(4000, read_form, (0, 0, 9) + LOOP + TWELVE)
        self.refused(400, read_form, (0, 0, 9) + both_times(7) + LOOP)
        self.refused(4000, read_form, (0, 0, 9) + LOOP + both_times(7))
        # With its own part and its call the next front is the one that is too much.
        self.assertEqual(len(read_form(NEARLY)), 397)
        self.refused(400, read_form, (0, 0, 9) + NEARLY + (0, 8) + LOOP)
        self.refused(400, read_form, (0, 0, 9) + NEARLY + (8,))
        self.assertEqual(len(read_form((0, 9) + NEARLY)), 399)
        self.assertEqual(len(read_form((-1, 0, 9) + NEARLY)), 400)
        # The first path is deep before there are many parts; and the other way round.
        self.refused(12, read_form, both_times(13))
        self.refused(400, read_form, both_times(12))

    def test_terms_of_40_parts_and_41(self):
        self.assertEqual(read_form(FORTY), last_form(FORTY))
        for function in (read_front, read_form):
            for term in [FORTY_ONE, None, (0,), (True,), [-1, 1], ()]:
                with self.assertRaises(InvalidTerm):
                    function(term)


if __name__ == "__main__":
    unittest.main()
