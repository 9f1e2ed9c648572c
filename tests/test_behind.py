"""Stage 3: one history behind another one, and classes of histories."""

import random
import unittest

import meanings
from oncework.errors import InvalidHistory, InvalidLot, InvalidPlace, TooMany
from oncework.ground.behind import (are_one_class, history_behind, left_step, lot_behind, met_end)
from oncework.ground.steps import (end_of, is_history, lot_history, origins, rests, rests_behind,
                                   step_done, steps_of)
from samples import (CHAIN, COPY, GROWS_TOO_LONG, I, LONG, LOOP, RAISES_TWICE, TWICE,
                     lively_terms, some_history)

ALL = (history_behind, met_end, are_one_class, left_step)


def two_histories(rng, term, most):
    """A term with two histories: the told one, or one that copies it, whichever comes."""
    one = some_history(rng, term, most)
    if rng.random() < 0.6:
        return term, one, some_history(rng, term, most)
    copied = (0,) + COPY + term
    other = (0,) + some_history(rng, step_done(copied, 0), 2)
    return copied, tuple([place + 5 for place in one]), other


def pairs(seed, many, parts, most):
    """Terms with two histories each, and what is left of each behind the other one."""
    rng = random.Random(seed)
    found = []
    for start in lively_terms(seed, many, parts):
        term, one, other = two_histories(rng, start, most)
        try:
            left = meanings.behind(term, one, other)
            back = meanings.behind(term, other, one)
            if meanings.largest_meeting(term, one, other) > 400:
                continue
        except meanings.TooBig:
            continue
        if meanings.limit_along(meanings.end(term, other), left) is None:
            if meanings.limit_along(meanings.end(term, one), back) is None:
                found.append((term, one, other, left, back))
    return found


PAIRS = pairs(31, 500, 30, 5)


def exchanged(rng, term, history):
    """The history with one pair of steps exchanged as [3.4] tells, or as it was."""
    at = rng.randrange(len(history))
    now = end_of(term, history[:at])
    first = history[at]
    for other in steps_of(now):
        if other != first:
            along = (first,) + lot_history(step_done(now, first), rests(now, first, other))
            if history[at:at + len(along)] == along:
                back = (other,) + lot_history(step_done(now, other), rests(now, other, first))
                made = history[:at] + back + history[at + len(along):]
                if is_history(term, made):
                    return made
    return history


def history_of(term, *calls):
    """The history that does, one after the other, the first step that begins with these parts."""
    places = ()
    for parts in calls:
        place = [at for at in steps_of(term) if term[at:at + len(parts)] == parts][0]
        places += (place,)
        term = step_done(term, place)
    return places


class Checks(unittest.TestCase):

    def refused(self, limit, function, *given):
        with self.assertRaises(TooMany, msg=function.__name__) as caught:
            function(*given)
        self.assertEqual(caught.exception.limit, limit)


class LotBehind(unittest.TestCase):

    def test_the_example(self):
        self.assertEqual(lot_behind(TWICE, (0, 5), 0), (1, 6))

    def test_the_step_itself_is_left_out_and_others_have_their_rests(self):
        self.assertEqual(lot_behind(TWICE, (0, 5), 5), (0,))
        self.assertEqual(lot_behind(TWICE, (0,), 0), ())
        self.assertEqual(lot_behind(TWICE, (), 0), ())
        self.assertEqual(lot_behind((0, -1, 7, 0, -1, 1, 1), (3,), 0), ())

    def test_the_step_need_not_be_in_the_lot(self):
        self.assertEqual(lot_behind(TWICE, (5,), 0), (1, 6))
        self.assertEqual(lot_behind(TWICE, (0,), 5), (0,))

    def test_all_rests_of_all_members(self):
        rng = random.Random(32)
        for term in lively_terms(32, 200, 40):
            lot = tuple([place for place in steps_of(term) if rng.random() < 0.7])
            for place in steps_of(term):
                came = origins(term, place)
                self.assertEqual(lot_behind(term, lot, place),
                                 tuple([at for at in range(len(came)) if came[at] in lot]))

    def test_the_term_behind_the_step_can_have_any_size(self):
        term = (0,) + GROWS_TOO_LONG[:-1] + (0, -1, 1, 1) + (1,)
        with self.assertRaises(TooMany):
            step_done(term, 1)
        place = len(term) - 5
        self.assertEqual(len(lot_behind(term, (1, place), 1)), 2)

    def test_terms_of_400_parts_are_let(self):
        self.assertEqual(history_behind(LONG, (), ()), ())

    def test_errors(self):
        for lot in [(5, 0), (1,), [0], None, (True,)]:
            with self.assertRaises(InvalidLot):
                lot_behind(TWICE, lot, 1)
        for place in [1, -1, 10, None, False, (0,)]:
            with self.assertRaises(InvalidPlace):
                lot_behind(TWICE, (0, 5), place)


class Behind(Checks):

    def test_the_example(self):
        self.assertEqual(
            [history_behind(TWICE, (5,), (0,)), history_behind(TWICE, (0,), (5,)),
             met_end(TWICE, (5,), (0,))], [(1, 3), (0,), (0, -1, 1, -1, 1)])

    def test_many_pairs_as_the_document_tells_them(self):
        self.assertGreater(len(PAIRS), 400)
        for term, one, other, left, back in PAIRS:
            self.assertEqual(history_behind(term, one, other), left, (term, one, other))
            self.assertEqual(history_behind(term, other, one), back, (term, one, other))

    def test_the_kinds_of_pairs(self):
        longer = sum([len(left) > len(one) for _, one, _, left, _ in PAIRS])
        shorter = sum([0 < len(left) < len(one) for _, one, _, left, _ in PAIRS])
        self.assertGreater(min(longer, shorter), 20)

    def test_both_ways_round_end_alike_with_the_same_rests(self):
        for term, one, other, _, _ in PAIRS:
            there = other + history_behind(term, one, other)
            back = one + history_behind(term, other, one)
            if len(there) > 60 or len(back) > 60:
                continue
            self.assertEqual(end_of(term, there), end_of(term, back))
            self.assertEqual(met_end(term, one, other), end_of(term, there))
            self.assertEqual(met_end(term, other, one), end_of(term, there))
            for place in range(len(term)):
                self.assertEqual(rests_behind(term, there, place),
                                 rests_behind(term, back, place))

    def test_a_member_that_is_done_is_left_out(self):
        self.assertEqual(history_behind(TWICE, (0, 1), (0, 1)), ())
        self.assertEqual(history_behind(TWICE, (0, 1), (0,)), (1,))
        self.assertEqual(history_behind(TWICE, (0,), (0, 1)), ())

    def test_histories_without_steps(self):
        for term, one, _, _, _ in PAIRS[:50]:
            self.assertEqual(history_behind(term, one, ()), one)
            self.assertEqual(history_behind(term, (), one), ())
            self.assertEqual(met_end(term, (), one), end_of(term, one))
            self.assertEqual(met_end(term, one, ()), end_of(term, one))
        self.assertEqual(met_end(CHAIN, (), ()), CHAIN)

    def test_sixty_steps_and_one_more(self):
        both = (0, 0, 1) + LOOP + LOOP
        one, other = (3,) * 60, (12,) * 60
        self.assertEqual(history_behind(both, one, other), one)
        self.assertEqual(met_end(both, one, other), both)
        self.assertIs(are_one_class(both, (3,) * 30 + (12,) * 30, (12,) * 30 + (3,) * 30), True)
        self.assertEqual(left_step(both, (12,) * 30 + (3,) * 30, (3,) * 60), (0, 12))
        for function in ALL:
            with self.assertRaises(InvalidHistory):
                function(both, (3,) * 61, ())
            with self.assertRaises(InvalidHistory):
                function(both, (), (12,) * 61)

    def test_a_step_of_which_sixty_rests_are_left_and_one_more(self):
        for copies, most in [(60, 60), (61, None)]:
            call = (0, -1) + (0,) * (copies - 1) + (1,) * copies
            term = call + (0, -1, 1, 7)
            one, other = (len(call),), (0,)
            if most:
                self.assertEqual(len(history_behind(term, one, other)), most)
            else:
                self.refused(60, history_behind, term, one, other)
            self.assertEqual(met_end(term, one, other), (0,) * (copies - 1) + (7,) * copies)
            self.assertEqual(left_step(term, one, other), (0, copies - 1))


class Classes(unittest.TestCase):

    def test_one_class_is_that_nothing_is_left(self):
        for term, one, other, left, back in PAIRS:
            self.assertIs(are_one_class(term, one, other), left == () and back == ())
            self.assertIs(are_one_class(term, one, one), True)

    def test_histories_made_of_one_another_by_exchanges(self):
        rng = random.Random(33)
        unlike = 0
        for term in lively_terms(33, 250, 24):
            one = some_history(rng, term, 4)
            if not one:
                continue
            other = one
            for _ in range(4):
                other = exchanged(rng, term, other)
            unlike += one != other
            self.assertIs(are_one_class(term, one, other), True, (term, one, other))
            self.assertEqual(end_of(term, one), end_of(term, other))
            for place in range(len(term)):
                self.assertEqual(rests_behind(term, one, place), rests_behind(term, other, place))
            shorter = one[:-1]
            self.assertIs(are_one_class(term, shorter, other), False)
            self.assertIs(are_one_class(term, other, shorter), False)
        self.assertGreater(unlike, 60)

    def test_steps_ahead_and_behind(self):
        rng = random.Random(34)
        unlike = 0
        for term in lively_terms(34, 250, 24):
            ahead = some_history(rng, term, 2)
            now = end_of(term, ahead)
            one = some_history(rng, now, 3)
            if not one or len(now) > 40:
                continue
            other = exchanged(rng, now, one)
            unlike += one != other
            self.assertIs(are_one_class(term, ahead + one, ahead + other), True)
            behind_both = some_history(rng, end_of(now, one), 2)
            self.assertIs(are_one_class(term, ahead + one + behind_both,
                                        ahead + other + behind_both), True)
            beside = some_history(rng, now, 2)
            try:
                left = history_behind(now, one, beside), history_behind(now, other, beside)
            except TooMany:
                continue
            self.assertIs(are_one_class(end_of(now, beside), *left), True)
        self.assertGreater(unlike, 20)

    def test_histories_of_one_end_need_not_be_of_one_class(self):
        term = (0,) + I + (0,) + I + (1,)
        self.assertEqual(end_of(term, (0,)), end_of(term, (3,)))
        self.assertIs(are_one_class(term, (0,), (3,)), False)
        self.assertIs(are_one_class(term, (0, 0), (3, 0)), True)
        self.assertIs(are_one_class(LOOP, (), (0,)), False)

    def test_a_history_behind_another_one_can_be_longer_than_it_was(self):
        self.assertEqual(len(history_behind(TWICE, (5,), (0,))), 2)

    def test_nothing_left_one_way_round_alone(self):
        self.assertEqual(history_behind(TWICE, (0,), (0, 1)), ())
        self.assertEqual(history_behind(TWICE, (0, 1), (0,)), (1,))
        self.assertIs(are_one_class(TWICE, (0,), (0, 1)), False)
        self.assertIs(are_one_class(TWICE, (0, 1), (0,)), False)


class LeftStep(unittest.TestCase):

    def test_none_exactly_if_nothing_is_left(self):
        none = 0
        for term, one, other, left, _ in PAIRS:
            self.assertEqual(left_step(term, one, other) is None, left == ())
            none += left == ()
        self.assertGreater(none, 50)

    def test_the_first_step_with_a_rest_and_its_least_rest(self):
        later = 0
        for term, one, other, left, _ in PAIRS:
            if left:
                index, place = left_step(term, one, other)
                later += index > 0
                self.assertEqual(history_behind(term, one[:index], other), ())
                self.assertEqual(place, left[0])
                self.assertEqual(history_behind(term, one[:index + 1], other)[0], place)
        self.assertGreater(later, 20)

    def test_by_hand(self):
        self.assertEqual(left_step(TWICE, (5,), (0,)), (0, 1))
        self.assertEqual(left_step(TWICE, (0,), (5,)), (0, 0))
        self.assertEqual(left_step(TWICE, (0, 6), (0, 1)), (1, 3))
        self.assertEqual(left_step(TWICE, (0, 1), (5,)), (0, 0))
        self.assertIsNone(left_step(TWICE, (0, 1), (5, 0)))
        self.assertIsNone(left_step(TWICE, (), (5, 0)))


class Limits(Checks):

    # The inner step makes the argument longer, the one behind it drops what it made.
    GROWS_IN = (0, -1, 6, 0) + COPY + (-1,) * 119 + (1,)

    def test_a_meeting_term_with_400_parts_and_more(self):
        # The argument of 95 parts becomes one of 2 n + 1, and the outer step copies this.
        for size, limit in [(98, None), (99, None), (100, 400)]:
            term = (0,) + COPY + (0,) + COPY + (-1,) * (size - 1) + (1,)
            one, other = (5,), (0,)
            met = 1 + 2 * (2 * size + 1)
            if limit is None:
                self.assertEqual(len(met_end(term, one, other)), met)
                self.assertEqual(history_behind(term, other, one), (0,))
            else:
                self.assertGreater(met, 400)
                for function in ALL:
                    self.refused(limit, function, term, one, other)
                    self.refused(limit, function, term, other, one)

    def test_just_400_parts_and_401(self):
        argument = (0,) + COPY + (-1,) * 98 + (1,)
        term = (0, -1, -1, 0, 2, 2) + argument
        self.assertEqual(len(met_end(term, (6,), (0,))), 400)
        self.assertEqual(len(met_end(term, (0,), (6,))), 400)
        term = (0, -1, -1, -1, 0, 3, 3) + argument
        for function in ALL:
            self.refused(400, function, term, (7,), (0,))
            self.refused(400, function, term, (0,), (7,))

    def test_a_meeting_term_of_beginnings_counts_even_if_the_end_is_small(self):
        term = (0,) + COPY + self.GROWS_IN
        one, other = (8, 5), (0,)
        self.assertEqual(end_of(term, one), (0,) + COPY + (5,))
        self.assertEqual(met_end(term, (5,), other), (0, 5, 5))
        for function in ALL:
            self.refused(400, function, term, one, other)
            self.refused(400, function, term, other, one)

    def test_a_term_between_two_meetings_may_be_larger(self):
        # Thirty steps (COPY 8) in the argument of a further COPY: 31 rests of one step.
        function = (-1, 0) + COPY + (1,)
        term = (0, -1, 0, 1) + (0,) * 29 + (0, 1, 9) * 30 + function
        one = (len(term) - 6,)
        other = (0,)
        now = step_done(term, 0)
        for _ in range(31):
            place = [at for at in steps_of(now) if now[at + 1:at + 8] == function][-1]
            other += (place,)
            now = step_done(now, place)
        self.assertEqual(now, (0,) + COPY + (0,) * 29 + ((0,) + COPY + (8,)) * 30)
        self.assertEqual(len(met_end(term, one, other)), 1 + 2 * (29 + 3 * 30))
        self.refused(400, history_behind, term, one, other)
        self.assertEqual(left_step(term, one, other), (0, 0))
        self.assertIs(are_one_class(term, one, other), False)

    def test_variables_of_the_meeting_term(self):
        one, other = (0,), (4,)
        self.assertEqual(end_of(RAISES_TWICE, one)[-1], 1000)
        self.assertEqual(end_of(RAISES_TWICE, other)[-1], 1000)
        for function in (history_behind, met_end):
            self.refused(1000, function, RAISES_TWICE, one, other)
            self.refused(1000, function, RAISES_TWICE, other, one)
        self.assertIs(are_one_class(RAISES_TWICE, one, other), False)
        self.assertEqual(left_step(RAISES_TWICE, one, other), (0, 0))
        self.assertEqual(left_step(RAISES_TWICE, other, one), (0, 1))

    def test_1000_is_let(self):
        term = RAISES_TWICE[:-1] + (998,)
        self.assertEqual(met_end(term, (0,), (4,)), (-1, -1, 1000))
        self.assertEqual(history_behind(term, (0,), (4,)), (0,))

    def test_a_variable_on_the_way_of_the_result_counts_even_if_the_end_is_small(self):
        term = (0, -1, 7) + RAISES_TWICE
        one, other = (7, 0), (3,)
        self.assertEqual(met_end(term, one, other), (6,))
        self.refused(1000, history_behind, term, one, other)
        self.assertEqual(history_behind(term, other, one), ())

    def test_a_meeting_term_comes_ahead_of_what_is_along_the_result(self):
        # First the result makes 1001, only then a term of more than 400 parts is met.
        grows = (0,) + COPY + (0,) + COPY + (-1,) * 99 + (1,)
        term = (0, 0, 5) + RAISES_TWICE + grows
        outside, inside = RAISES_TWICE[:8], RAISES_TWICE[4:]
        one = history_of(term, outside, (0,) + COPY + (0,))
        other = history_of(term, inside, (0,) + COPY + (-1,))
        self.refused(1000, history_behind, term, one[:1], other)
        for function in ALL:
            self.refused(400, function, term, one, other)
            self.refused(400, function, term, other, one)

    def test_the_first_one_along_the_result(self):
        # A step with 61 rests, and one that makes 1001, in both orders.
        call = (0, -1) + (0,) * 60 + (1,) * 61 + (0, -1, 1, 7)
        term = (0, 0, 5) + RAISES_TWICE + call
        outside, inside = RAISES_TWICE[:8], RAISES_TWICE[4:]
        other = history_of(term, inside, (0, -1, 0, 0))
        for calls, limit in [((outside, (0, -1, 1, 7)), 1000), (((0, -1, 1, 7), outside), 60)]:
            one = history_of(term, *calls)
            self.refused(limit, history_behind, term, one, other)
            self.refused(1000, met_end, term, one, other)


if __name__ == "__main__":
    unittest.main()
