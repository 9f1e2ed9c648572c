"""Stage 2: histories, their ends, and rests behind them; lots."""

import random
import sys
import unittest

from oncework.errors import InvalidHistory, TooMany
from oncework.ground.steps import (end_of, is_history, is_lot, lot_done, lot_history, origins, rests,
                                   rests_behind, step_done, steps_of)
from samples import (CHAIN, GROWS, GROWS_BOTH_WAYS, GROWS_TO_400, GROWS_TOO_LONG, I, LONG, LOOP,
                     RAISES, RAISES_TOO_HIGH, TWICE, WORKED, WRONG_HISTORIES, WRONG_LOTS,
                     random_terms)

TERMS = WORKED + random_terms(4, 150, 30)

# The outer step drops what the inner step, at 3, makes: a variable of 1001.
DROPS = (0, -1, 7) + RAISES_TOO_HIGH


def random_history(rng, term, most):
    """A history of at most so many steps, and the rests of each part behind it."""
    places = []
    kept = {place: (place,) for place in range(len(term))}
    for _ in range(most):
        if not steps_of(term):
            break
        place = rng.choice(steps_of(term))
        try:
            made = step_done(term, place)
        except TooMany:
            break
        came = origins(term, place)
        kept = {first: tuple([at for at in range(len(came)) if came[at] in kept[first]])
                for first in kept}
        places.append(place)
        term = made
    return tuple(places), term, kept


class Histories(unittest.TestCase):

    def test_many_histories_step_by_step(self):
        rng = random.Random(5)
        long_ones = 0
        for term in TERMS:
            for most in (1, 3, 8):
                history, end, kept = random_history(rng, term, most)
                long_ones += len(history) > 2
                self.assertIs(is_history(term, history), True)
                self.assertEqual(end_of(term, history), end)
                for place in range(len(term)):
                    self.assertEqual(rests_behind(term, history, place), kept[place])
        self.assertGreater(long_ones, 50)

    def test_by_hand(self):
        self.assertEqual(end_of(TWICE, (0, 1, 0)), (0, -1, 1, -1, 1))
        self.assertEqual(rests_behind(TWICE, (0, 1), 5), (3,))
        self.assertEqual(rests_behind(TWICE, (0, 1), 8), (1, 6))
        self.assertEqual(rests_behind(TWICE, (0, 1, 3), 9), (2, 4))
        self.assertEqual(end_of(CHAIN, (0, 0)), (2,))

    def test_the_history_of_no_step(self):
        for term in TERMS + [LONG]:
            self.assertIs(is_history(term, ()), True)
            self.assertEqual(end_of(term, ()), term)
            for place in (0, len(term) - 1):
                self.assertEqual(rests_behind(term, (), place), (place,))

    def test_a_step_has_no_rests_behind_a_history_that_does_it(self):
        rng = random.Random(6)
        for term in TERMS:
            for step in steps_of(term):
                try:
                    made = step_done(term, step)
                except TooMany:
                    continue
                history, _, _ = random_history(rng, made, 4)
                self.assertEqual(rests_behind(term, (step,) + history, step), ())
                self.assertEqual(rests_behind(term, (step,) + history, step + 1), ())

    def test_a_step_that_is_done_later_has_no_rests_either(self):
        self.assertEqual(rests_behind(TWICE, (0, 1), 5), (3,))
        self.assertEqual(rests_behind(TWICE, (0, 1, 3), 5), ())

    def test_wrong_values_are_no_histories(self):
        for value in WRONG_HISTORIES:
            self.assertIs(is_history(TWICE, value), False, repr(value)[:80])

    def test_sixty_steps_and_one_more(self):
        self.assertIs(is_history(LOOP, (0,) * 60), True)
        self.assertEqual(end_of(LOOP, (0,) * 60), LOOP)
        self.assertEqual(rests_behind(LOOP, (0,) * 60, 0), ())
        self.assertIs(is_history(LOOP, (0,) * 61), False)
        with self.assertRaises(InvalidHistory):
            end_of(LOOP, (0,) * 61)

    def test_terms_on_the_way_have_bounds(self):
        for term in (GROWS, GROWS_TO_400, RAISES):
            self.assertIs(is_history(term, (0,)), True)
            self.assertEqual(end_of(term, (0,)), step_done(term, 0))
        for term in (GROWS_TOO_LONG, RAISES_TOO_HIGH, GROWS_BOTH_WAYS):
            self.assertIs(is_history(term, (0,)), False)
            with self.assertRaises(InvalidHistory):
                end_of(term, (0,))
            with self.assertRaises(InvalidHistory):
                rests_behind(term, (0,), 0)

    def test_a_term_on_the_way_counts_even_if_the_end_is_small(self):
        self.assertEqual(end_of(DROPS, (0,)), (6,))
        self.assertIs(is_history(DROPS, (3, 0)), False)
        drops_long = (0, -1, 7) + GROWS_TOO_LONG
        self.assertEqual(end_of(drops_long, (0,)), (6,))
        self.assertIs(is_history(drops_long, (3, 0)), False)


class Lots(unittest.TestCase):

    def test_a_lot_is_an_ascending_tuple_of_steps(self):
        for value in [(), (0,), (5,), (0, 5)]:
            self.assertIs(is_lot(TWICE, value), True)
        for value in WRONG_LOTS:
            self.assertIs(is_lot(TWICE, value), False, repr(value)[:80])
        for term in TERMS:
            self.assertIs(is_lot(term, steps_of(term)), True)
            self.assertIs(is_lot(term, steps_of(term) + (len(term) - 1,)), False)

    def test_by_hand(self):
        self.assertEqual(lot_history(TWICE, (0, 5)), (0, 1, 3))
        self.assertEqual(lot_done(TWICE, (0, 5)), (0, -1, 1, -1, 1))
        self.assertEqual(lot_history(CHAIN, (0, 3)), (0, 0))
        self.assertEqual(lot_history(CHAIN, (3,)), (3,))
        self.assertEqual(lot_done(DROPS, (0, 3)), (6,))
        self.assertEqual(lot_history(DROPS, (0, 3)), (0,))

    def test_the_lot_of_no_step(self):
        for term in TERMS + [LONG]:
            self.assertIs(is_lot(term, ()), True)
            self.assertEqual((lot_history(term, ()), lot_done(term, ())), ((), term))

    def test_new_steps_are_not_done(self):
        self.assertEqual(lot_history(LOOP, (0,)), (0,))
        self.assertEqual(lot_done(LOOP, (0,)), LOOP)

    def test_the_least_rest_comes_next(self):
        rng = random.Random(7)
        for term in TERMS:
            lot = some_steps(rng, term)
            history = told_history(term, lot)
            if history is not None:
                left = lot
                now = term
                for place in history:
                    self.assertEqual(place, min(left))
                    left = sorted([at for other in left for at in rests(now, place, other)])
                    now = step_done(now, place)
                self.assertEqual(left, [] if history else ())
                self.assertEqual(lot_done(term, lot), now)

    def test_other_orders_end_alike_with_the_same_rests(self):
        rng = random.Random(8)
        unlike = 0
        for term in TERMS:
            for _ in range(4):
                lot = some_steps(rng, term)
                history = told_history(term, lot)
                other = some_order(rng, term, lot)
                if history is None or not is_history(term, other):
                    continue
                unlike += history != other
                self.assertEqual(end_of(term, other), lot_done(term, lot))
                for place in range(len(term)):
                    self.assertEqual(rests_behind(term, other, place),
                                     rests_behind(term, history, place))
        self.assertGreater(unlike, 60)

    def test_orders_can_be_of_unlike_lengths(self):
        self.assertEqual(end_of(TWICE, (5, 0)), lot_done(TWICE, (0, 5)))
        self.assertEqual((len(lot_history(TWICE, (0, 5))), len((5, 0))), (3, 2))


class LotLimits(unittest.TestCase):

    def refused(self, term, lot, limit):
        for tell in (lot_history, lot_done):
            with self.assertRaises(TooMany) as caught:
                tell(term, lot)
            self.assertEqual(caught.exception.limit, limit)

    def test_the_first_term_that_is_too_large_raises_its_error(self):
        self.refused(GROWS_TOO_LONG, (0,), 400)
        self.refused(RAISES_TOO_HIGH, (0,), 1000)
        self.refused(GROWS_BOTH_WAYS, (0,), 400)
        self.refused(DROPS, (3,), 1000)
        high_first = (0, 0, 5) + RAISES_TOO_HIGH + GROWS_TOO_LONG
        self.refused(high_first, (3, 8), 1000)
        self.refused(high_first, (8,), 400)
        long_first = (0, 0, 5) + GROWS_TOO_LONG + RAISES_TOO_HIGH
        self.refused(long_first, (3, 3 + len(GROWS_TOO_LONG)), 400)

    def test_a_term_on_the_way_counts_even_if_the_end_is_small(self):
        # The step at 0 makes the large term, the one at 2 drops what is large.
        high = (0, -1, 0, -1, 9, -1, 2, 1000)
        self.refused(high, (0, 2), 1000)
        self.assertEqual(end_of(high, (2, 0)), (7,))
        long = (0, -1, 0, -1, 9, 0, 1, 1) + (-1,) * 199 + (1,)
        self.refused(long, (0, 2), 400)
        self.assertEqual(end_of(long, (2, 0)), (7,))

    def test_400_parts_and_1000_are_let(self):
        self.assertEqual(len(lot_done(GROWS_TO_400, (0,))), 400)
        self.assertEqual(lot_done(RAISES, (0,)), (-1, 1000))

    def test_sixty_steps_and_one_more(self):
        sixty = (0,) + I
        term = sixty * 60 + (3,)
        self.assertEqual(lot_history(term, steps_of(term)), (0,) * 60)
        self.assertEqual(lot_done(term, steps_of(term)), (3,))
        term = sixty * 61 + (3,)
        self.refused(term, steps_of(term), 60)
        self.assertEqual(lot_done(term, steps_of(term)[:60]), (0, -1, 1, 3))

    def test_what_a_step_more_would_make_is_not_looked_at(self):
        call = (0,) + I
        self.refused(call * 59 + GROWS_TOO_LONG, steps_of(call * 59 + GROWS_TOO_LONG), 400)
        self.refused(call * 60 + GROWS_TOO_LONG, steps_of(call * 60 + GROWS_TOO_LONG), 60)
        self.refused(call * 59 + RAISES_TOO_HIGH, steps_of(call * 59 + RAISES_TOO_HIGH), 1000)
        self.refused(call * 60 + RAISES_TOO_HIGH, steps_of(call * 60 + RAISES_TOO_HIGH), 60)


def lines_run(function, *given):
    """How many lines of Python a call runs: unlike its time, always the same."""
    many = 0

    def trace(frame, event, argument):
        nonlocal many
        many += event == "line"
        return trace

    before = sys.gettrace()
    sys.settrace(trace)
    try:
        function(*given)
    except TooMany:
        pass
    finally:
        sys.settrace(before)
    return many


class LongLots(unittest.TestCase):
    """Lots of sixty steps in long terms: where each of many steps changes few parts."""

    EDGE = (0, -1) + (0,) * 58 + (1,) * 59 + (0, -1, 1, -1, 1)
    LONGER = (0, -1) + (0,) * 59 + (1,) * 60 + (0, -1, 1, -1, 1)
    NESTED = ((0,) + I) * 60 + (-1,) * 219 + (1,)

    def test_sixty_steps(self):
        lot = (0, len(self.EDGE) - 5)
        self.assertEqual(lot_done(self.EDGE, lot), (0,) * 58 + I * 59)
        self.assertEqual(lot_history(self.EDGE, lot), (0,) + tuple(range(58, 175, 2)))
        self.assertIs(is_history(self.EDGE, lot_history(self.EDGE, lot)), True)

    def test_one_step_more(self):
        lot = (0, len(self.LONGER) - 5)
        for tell in (lot_history, lot_done):
            with self.assertRaises(TooMany) as caught:
                tell(self.LONGER, lot)
            self.assertEqual(caught.exception.limit, 60)

    def test_steps_one_in_the_argument_of_the_other(self):
        lot = steps_of(self.NESTED)
        self.assertEqual(len(lot), 60)
        self.assertEqual(lot_history(self.NESTED, lot), (0,) * 60)
        self.assertEqual(lot_done(self.NESTED, lot), (-1,) * 219 + (1,))

    def test_a_step_does_not_go_through_the_whole_term(self):
        # Each of the sixty steps but the first one changes five parts of about three hundred.
        one = lines_run(step_done, self.EDGE, 0)
        for tell in (lot_history, lot_done):
            self.assertLess(lines_run(tell, self.EDGE, (0, len(self.EDGE) - 5)), 6 * one)
            self.assertLess(lines_run(tell, self.LONGER, (0, len(self.LONGER) - 5)), 6 * one)


def some_steps(rng, term):
    """A lot of about three quarters of the steps."""
    return tuple([place for place in steps_of(term) if rng.random() < 0.75])


def told_history(term, lot):
    """The history of the lot, None if the program refuses it."""
    try:
        return lot_history(term, lot)
    except TooMany:
        return None


def some_order(rng, term, lot):
    """The lot done with any member or rest next; cut off behind 61 steps."""
    places = []
    left = list(lot)
    while left and len(places) < 61:
        place = rng.choice(left)
        try:
            made = step_done(term, place)
        except TooMany:
            return tuple(places) + (-1,)
        left = [at for other in left for at in rests(term, place, other)]
        places.append(place)
        term = made
    return tuple(places)


if __name__ == "__main__":
    unittest.main()
