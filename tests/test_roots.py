"""Stage 8: the root's order, last forms, and needed steps."""

import random
import unittest

import meanings
from oncework.errors import InvalidNumber, InvalidPlace, InvalidTerm, TooMany
from oncework.ground.standard import is_standard
from oncework.ground.steps import end_of, is_history, rests_behind, steps_of
from oncework.pieces import roots as module
from oncework.pieces.roots import (is_last, is_needed, last_form, needed_steps, needless_history,
                                   root_history, root_length, root_step)
from samples import (COPY, GROWS_BOTH_WAYS, GROWS_TO_400, GROWS_TOO_LONG, I, JUNK, LONG, LOOP,
                     RAISES, RAISES_TOO_HIGH, TOO_LONG, TWICE, WRONG_TERMS, lively_terms,
                     random_terms, some_history)

# The function part grows for ever, so the term behind it is never reached.
GROWING = (0, -1, 0, 0, 1, 1, 1, -1, 0, 0, 1, 1, 1)
DROPS_LOOP = (0, -1, 5) + LOOP
SIXTY = (0, -1, 1) * 60 + (3,)
SIXTY_ONE = (0, -1, 1) * 61 + (3,)


def order(term, most):
    """The root's order by hand: its places, the last term, and the first limit that is passed."""
    places = ()
    while len(places) < most and meanings.steps(term):
        place = meanings.steps(term)[0]
        term = meanings.step(term, place)
        places += (place,)
        if len(term) > 400 or max(term) > 1000:
            return places, term, 400 if len(term) > 400 else 1000
    return places, term, None


class Checks(unittest.TestCase):

    def refused(self, limit, function, *given):
        with self.assertRaises(TooMany, msg=function.__name__) as caught:
            function(*given)
        self.assertEqual(caught.exception.limit, limit)


class Order(Checks):

    def test_the_example(self):
        term = (0, -1, 1, 0, -1, 1, 1)
        self.assertEqual([root_step(term), root_history(term, 60), last_form(term),
                          needed_steps(term), is_last((0, 1, -1, 1))],
                         [0, (0, 0), (1,), (0, 3), True])
        self.assertEqual(module.MOST_ROOT_STEPS, 60)

    def test_the_least_place_of_a_step(self):
        for term in lively_terms(81, 100, 60) + random_terms(82, 100, 60) + [LONG]:
            places = steps_of(term)
            self.assertEqual(root_step(term), places[0] if places else None)
            self.assertIs(is_last(term), not places)

    def test_many_orders(self):
        ended = 0
        for term in lively_terms(83, 300, 50):
            places, end, limit = order(term, 60)
            if limit is None:
                for most in (0, 1, 2, 3, 10, 60):
                    self.assertEqual(root_history(term, most), places[:most])
                if len(places) < 60:
                    self.assertEqual(last_form(term), end)
                    self.assertEqual(root_length(term), len(places))
                    ended += 1
        self.assertGreater(ended, 200)

    def test_what_is_a_last_form(self):
        for value in JUNK + WRONG_TERMS:
            self.assertIs(is_last(value), False, repr(value)[:80])
        for value in [(1,), I, LONG, (0, 1, -1, 1), (0, 0, 1, I[0], I[1], 2)]:
            self.assertIs(is_last(value), True)
        for value in [TWICE, LOOP, GROWS_TOO_LONG, (-1, 0, -1, 1, 1)]:
            self.assertIs(is_last(value), False)

    def test_a_new_step_around_the_one_that_was_done(self):
        term = (0, 0) + I + I + (7,)
        self.assertEqual(root_history(term, 60), (1, 0))
        self.assertEqual(last_form(term), (7,))

    def test_it_is_a_standard_history(self):
        for term in lively_terms(84, 200, 30):
            places, _, limit = order(term, 30)
            if limit is None:
                self.assertIs(is_standard(term, root_history(term, 30)), True)

    def test_sixty_steps_and_sixty_one(self):
        self.assertEqual(root_history(SIXTY, 60), (0,) * 60)
        self.assertEqual(root_history(SIXTY_ONE, 60), (0,) * 60)
        self.assertEqual((last_form(SIXTY), root_length(SIXTY)), ((3,), 60))
        self.assertEqual(needed_steps(SIXTY), steps_of(SIXTY))
        for function in (last_form, root_length, needed_steps):
            self.refused(60, function, SIXTY_ONE)
        for function in (is_needed, needless_history):
            self.refused(60, function, SIXTY_ONE, 0)

    def test_a_term_without_a_last_form(self):
        for most in (0, 1, 60):
            self.assertEqual(root_history(LOOP, most), (0,) * most)
        self.refused(60, last_form, LOOP)
        self.refused(60, root_length, LOOP)

    def test_a_term_that_grows(self):
        places, _, limit = order(GROWING, 60)
        self.assertEqual((limit, len(places)), (400, 56))
        self.assertEqual(root_history(GROWING, 55), places[:55])
        self.refused(400, root_history, GROWING, 56)
        self.refused(400, root_history, GROWING, 60)
        self.refused(400, last_form, GROWING)

    def test_the_error_of_the_first_step_with_one(self):
        for term, limit in [(GROWS_TOO_LONG, 400), (RAISES_TOO_HIGH, 1000),
                            (GROWS_BOTH_WAYS, 400)]:
            self.assertEqual(root_history(term, 0), ())
            self.refused(limit, root_history, term, 1)
            for function in (last_form, root_length, needed_steps):
                self.refused(limit, function, term)
            for function in (is_needed, needless_history):
                self.refused(limit, function, term, 0)
        self.assertEqual(last_form(RAISES), (-1, 1000))
        self.assertEqual(root_history(GROWS_TO_400, 1), (0,))
        both = (0, 0, 5) + RAISES_TOO_HIGH + GROWS_TOO_LONG
        self.refused(1000, last_form, both)
        both = (0, 0, 5) + GROWS_TOO_LONG[:-1] + (1,) + RAISES_TOO_HIGH
        self.refused(400, last_form, both)
        call = (0, -1, 1)
        self.refused(1000, last_form, call * 59 + RAISES_TOO_HIGH)
        self.refused(60, last_form, call * 60 + RAISES_TOO_HIGH)

    def test_other_histories_that_end_without_a_step_end_in_the_last_form(self):
        rng = random.Random(85)
        shorter = longer = 0
        for term in lively_terms(85, 300, 30):
            history = some_history(rng, term, 40)
            end = end_of(term, history)
            if is_last(end):
                self.assertEqual(last_form(term), end)
                shorter += len(history) < root_length(term)
                longer += len(history) > root_length(term)
        self.assertGreater(min(shorter, longer), 5)

    def test_it_need_not_be_the_shortest_history(self):
        self.assertEqual(root_length(TWICE), 4)
        self.assertEqual(end_of(TWICE, (5, 0, 0)), last_form(TWICE))

    def test_errors(self):
        self.assertEqual(root_history(LONG, 60), ())
        with self.assertRaises(InvalidTerm):
            root_history(TOO_LONG, 61)
        for most in [-1, 61, None, True, False, "1", (1,), [1], 10 ** 60]:
            with self.assertRaises(InvalidNumber) as caught:
                root_history(GROWS_TOO_LONG, most)
            self.assertIs(caught.exception.given, most)


class Needed(Checks):

    def test_against_the_roots_order(self):
        needed = needless = 0
        for term in lively_terms(86, 300, 30):
            places, _, limit = order(term, 40)
            if limit is not None or len(places) == 40:
                continue
            found = []
            for place in steps_of(term):
                done = [count for count, step in enumerate(places)
                        if step in rests_behind(term, places[:count], place)]
                self.assertIs(is_needed(term, place), bool(done))
                self.assertEqual(needless_history(term, place), None if done else places)
                found += [place] if done else []
            self.assertEqual(needed_steps(term), tuple(found))
            needed += len(found)
            needless += len(steps_of(term)) - len(found)
        self.assertGreater(min(needed, needless), 60)

    def test_each_history_to_the_last_form_does_a_rest_of_a_needed_step(self):
        rng = random.Random(87)
        checked = 0
        for term in lively_terms(87, 300, 24):
            history = some_history(rng, term, 30)
            if history and is_last(end_of(term, history)):
                for place in needed_steps(term):
                    done = [count for count, step in enumerate(history)
                            if step in rests_behind(term, history[:count], place)]
                    self.assertTrue(done)
                    checked += 1
        self.assertGreater(checked, 150)

    def test_a_step_that_is_not_needed_has_a_history_without_it(self):
        for term in lively_terms(88, 200, 24):
            try:
                needed = needed_steps(term)
            except TooMany:
                continue
            for place in steps_of(term):
                history = needless_history(term, place)
                self.assertEqual(history is None, place in needed)
                if history is not None and is_history(term, history):
                    self.assertIs(is_last(end_of(term, history)), True)
                    for count, step in enumerate(history):
                        self.assertNotIn(step, rests_behind(term, history[:count], place))

    def test_the_first_step_is_needed_and_rests_of_others_are_not(self):
        rng = random.Random(89)
        for term in lively_terms(89, 200, 30):
            try:
                needed = needed_steps(term)
                self.assertIn(root_step(term), needed)
                history = some_history(rng, term, 2)
                end = end_of(term, history)
                later = needed_steps(end)
            except TooMany:
                continue
            for place in steps_of(term):
                if place not in needed:
                    self.assertFalse(set(rests_behind(term, history, place)) & set(later))

    def test_each_step_of_the_order_is_needed_where_it_is_done(self):
        for term in lively_terms(90, 60, 24):
            places, _, limit = order(term, 25)
            if limit is None and len(places) < 25:
                for count, place in enumerate(places):
                    self.assertIs(is_needed(end_of(term, places[:count]), place), True)

    def test_a_step_in_an_argument_that_is_dropped(self):
        self.assertEqual(needed_steps(DROPS_LOOP), (0,))
        self.assertIs(is_needed(DROPS_LOOP, 3), False)
        self.assertEqual(needless_history(DROPS_LOOP, 3), (0,))
        self.assertEqual(last_form(DROPS_LOOP), (4,))

    def test_the_order_does_a_piece_at_more_places_than_one(self):
        self.assertEqual(root_history(TWICE, 60), (0, 1, 0, 0))
        self.assertEqual(needed_steps(TWICE), (0, 5))

    def test_a_new_step_is_no_rest_of_a_step(self):
        term = (0, -1, 0, 1, 7) + I
        self.assertEqual(root_history(term, 60), (0, 0))
        self.assertEqual(needed_steps(term), (0,))

    def test_errors(self):
        for function in (is_needed, needless_history):
            for place in [1, -1, 2, 10, None, True, False, (0,), "0"]:
                with self.assertRaises(InvalidPlace):
                    function(TWICE, place)
            with self.assertRaises(InvalidPlace):
                function(GROWS_TOO_LONG, 1)
            with self.assertRaises(InvalidTerm):
                function(TOO_LONG, 0)
        self.assertIs(is_needed((0,) + COPY + (1,), 0), True)


if __name__ == "__main__":
    unittest.main()
