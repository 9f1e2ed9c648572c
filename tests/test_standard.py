"""Stage 4: standard histories."""

import itertools
import random
import unittest

import meanings
from oncework.errors import InvalidHistory, InvalidNumber, InvalidTerm, TooMany
from oncework.ground.behind import are_one_class
from oncework.ground.standard import first_fault, is_standard, standard_histories, standard_of
from oncework.ground.steps import end_of, is_history, lot_history, step_done, steps_of
from samples import (CHAIN, COPY, FORTY, FORTY_ONE, I, LEVELS, LOOP, RAISES_TOO_HIGH,
                     RAISES_WHAT_DROPS, TWICE, lively_terms, some_history)

LESS = (0, -1, 2, 0, -1, 1, -1, 1)

# Five copies of a step that drops much, which are copied four times.
COPIES_FIRST = (0, -1, 0, -1) + (0,) * 3 + (1,) * 4 + (0,) * 4 + (1,) * 5 + (
    0, -1, 3) + (-1,) * 16 + (1,)


def cases(seed, many, parts, most):
    """Terms with a history each, and its standard history as the document makes it."""
    rng = random.Random(seed)
    found = []
    for term in lively_terms(seed, many, parts):
        history = some_history(rng, term, most)
        try:
            found.append((term, history, meanings.standard(term, history)))
        except meanings.TooBig:
            continue
    return found


def innermost(term):
    """The history that always does the greatest place, to the last form."""
    history = ()
    while steps_of(term):
        history += (max(steps_of(term)),)
        term = step_done(term, history[-1])
    return history


CASES = cases(41, 700, 34, 6)
LET = [case for case in CASES if meanings.limit_along(case[0], case[2]) is None]


class Faults(unittest.TestCase):

    def test_the_example(self):
        self.assertEqual(
            [is_standard(TWICE, (5, 0)), first_fault(TWICE, (5, 0)), standard_of(TWICE, (5, 0)),
             first_fault(TWICE, (0, 6, 1)), standard_of(TWICE, (0, 6, 1)), standard_of(LESS, (3, 0))],
            [False, (0, 1), (0, 1, 3), (1, 2), (0, 1, 3), (0,)])

    def test_many_histories_as_the_document_tells_them(self):
        faulty = 0
        for term, history, _ in CASES:
            fault = meanings.fault(term, history)
            self.assertEqual(first_fault(term, history), fault, (term, history))
            self.assertIs(is_standard(term, history), fault is None)
            faulty += fault is not None
        self.assertGreater(faulty, 200)
        self.assertGreater(len(CASES) - faulty, 100)

    def test_the_least_of_several_faults(self):
        # The last step stands to the left of both others, the second one of the first one.
        three = (0, 0, 0, 7) + ((0,) + I + (1,)) * 3
        self.assertEqual(first_fault(three, (12, 8, 4)), (0, 1))
        self.assertEqual(first_fault(three, (8, 9, 4)), (0, 2))
        self.assertEqual(first_fault(three, (4, 9, 5)), (1, 2))
        self.assertEqual(first_fault(three, (8, 4, 6)), (0, 1))
        self.assertIsNone(first_fault(three, (4, 5, 6)))

    def test_a_new_step_to_the_left_is_not_at_fault(self):
        # The step at 0 is new behind the one at 1.
        term = (0, 0) + I + I + (7,)
        self.assertEqual(steps_of(term), (1,))
        self.assertIsNone(first_fault(term, (1, 0)))
        self.assertEqual(standard_of(term, (1, 0)), (1, 0))

    def test_a_fault_over_several_steps(self):
        # The step that is done last was there at first, to the left of all others.
        term = (0,) + COPY + (0,) + I + (0,) + I + (3,)
        self.assertEqual(first_fault(term, (5, 5, 0)), (0, 2))
        self.assertEqual(first_fault(term, (8, 5, 0)), (0, 1))

    def test_no_step_and_one(self):
        for term, _, _ in CASES[:50]:
            for history in [()] + [(place,) for place in steps_of(term)]:
                if is_history(term, history):
                    self.assertIs(is_standard(term, history), True)
                    self.assertIsNone(first_fault(term, history))
                    self.assertEqual(standard_of(term, history), history)

    def test_the_least_step_each_time_is_standard(self):
        for term, _, _ in CASES:
            places = ()
            now = term
            while steps_of(now) and len(places) < 8 and len(now) < 150:
                place = min(steps_of(now))
                try:
                    now = step_done(now, place)
                except TooMany:
                    break
                places += (place,)
            self.assertIs(is_standard(term, places), True)
            self.assertEqual(standard_of(term, places), places)

    def test_the_history_of_a_lot_is_standard(self):
        for term, _, _ in CASES[:200]:
            try:
                self.assertIs(is_standard(term, lot_history(term, steps_of(term))), True)
            except TooMany:
                continue


class Standard(unittest.TestCase):

    def test_many_histories_as_the_document_tells_them(self):
        self.assertGreater(len(LET), 500)
        for term, history, standard in LET:
            self.assertEqual(standard_of(term, history), standard, (term, history))
        self.assertGreater(sum([case[1] != case[2] for case in LET]), 200)
        self.assertGreater(sum([len(case[1]) < len(case[2]) for case in LET]), 20)
        self.assertGreater(sum([len(case[1]) > len(case[2]) for case in LET]), 20)

    def test_it_is_of_the_class_and_without_a_fault(self):
        for term, history, standard in LET:
            made = standard_of(term, history)
            self.assertIs(is_standard(term, made), True)
            self.assertEqual(standard_of(term, made), made)
            self.assertEqual(end_of(term, made), end_of(term, history))
            try:
                self.assertIs(are_one_class(term, made, history), True)
            except TooMany:
                continue

    def test_one_class_is_one_standard_history(self):
        rng = random.Random(42)
        alike = 0
        for term in lively_terms(42, 300, 16):
            for _ in range(3):
                one, other = some_history(rng, term, 3), some_history(rng, term, 3)
                try:
                    same = are_one_class(term, one, other)
                    self.assertIs(standard_of(term, one) == standard_of(term, other), same)
                except TooMany:
                    continue
                alike += same and one != other
        self.assertGreater(alike, 30)

    def test_a_history_that_ends_in_a_last_form_does_the_least_step_each_time(self):
        rng = random.Random(43)
        ended = 0
        for term in lively_terms(43, 300, 20):
            history = some_history(rng, term, 30)
            if not steps_of(end_of(term, history)):
                now = term
                try:
                    standard = standard_of(term, history)
                except TooMany:
                    continue
                for place in standard:
                    self.assertEqual(place, min(steps_of(now)))
                    now = step_done(now, place)
                ended += 1
        self.assertGreater(ended, 150)

    def test_it_need_not_be_the_shortest_one(self):
        self.assertEqual(standard_of(TWICE, (5, 0)), (0, 1, 3))
        self.assertIs(are_one_class(TWICE, (5, 0), (0, 1, 3)), True)

    def test_a_beginning_need_not_have_a_beginning(self):
        self.assertEqual(standard_of(TWICE, (5,)), (5,))
        self.assertEqual(standard_of(TWICE, (5, 0)), (0, 1, 3))

    def test_its_steps_need_not_go_to_the_right(self):
        self.assertEqual(standard_of(TWICE, (0, 1, 0)), (0, 1, 0))

    def test_a_step_that_is_dropped_is_left_out(self):
        self.assertEqual(standard_of(LESS, (3, 0)), (0,))
        self.assertEqual(standard_of(LESS, (3,)), (3,))

    def test_sixty_steps_and_one_more(self):
        self.assertEqual(standard_of(LOOP, (0,) * 60), (0,) * 60)
        self.assertIs(is_standard(LOOP, (0,) * 60), True)
        self.assertIsNone(first_fault(LOOP, (0,) * 60))
        for function in (standard_of, is_standard, first_fault):
            with self.assertRaises(InvalidHistory):
                function(LOOP, (0,) * 61)
        both = (0, 0, 1) + LOOP + LOOP
        self.assertEqual(standard_of(both, (12, 3) * 30), (3,) * 30 + (12,) * 30)
        self.assertEqual(first_fault(both, (3,) * 59 + (12,)), None)
        self.assertEqual(first_fault(both, (12,) + (3,) * 59), (0, 1))

    def test_what_would_be_copied_far_too_often_on_the_way(self):
        # The histories that are left on the way would pass terms of 2 ** 28 parts.
        inner = (0,) + COPY + (1,)
        spin = (-1, -1, 0, 0, 2, 2, 0, -1, 5) + inner
        term = (0, 0) + spin + spin + (7,)
        now = term
        history = ()
        for _ in range(4):
            place = max([at for at in steps_of(now) if at > 1])
            history += (place,)
            now = step_done(now, place)
        self.assertEqual(now, (0, 0) + (-1, -1, 0, 0, 2, 2, 4) * 2 + (7,))
        history += (1, 0) * 28
        standard = standard_of(term, history)
        self.assertEqual(standard[:56], (1, 0) * 28)
        self.assertEqual(end_of(term, standard), end_of(term, history))
        self.assertIs(is_standard(term, standard), True)


class Limits(unittest.TestCase):

    def refused(self, limit, term, history):
        with self.assertRaises(TooMany) as caught:
            standard_of(term, history)
        self.assertEqual(caught.exception.limit, limit)

    def test_more_than_sixty_steps(self):
        history = innermost(LEVELS)
        self.assertEqual((len(history), end_of(LEVELS, history)), (14, I))
        self.refused(60, LEVELS, history)
        self.assertEqual(first_fault(LEVELS, history), (0, 2))

    def test_a_term_of_more_than_400_parts(self):
        # From the root 104 parts are copied four times before any of them is dropped.
        self.assertEqual(len(COPIES_FIRST), 40)
        self.assertIs(is_history(COPIES_FIRST, (20, 0, 0)), True)
        self.refused(400, COPIES_FIRST, (20, 0, 0))
        fewer = COPIES_FIRST[:23] + (-1,) * 15 + (1,)
        self.assertEqual(len(step_done(step_done(fewer, 0), 0)), 399)
        self.assertEqual(standard_of(fewer, (20, 0, 0))[:2], (0, 0))

    def test_a_variable_above_1000(self):
        self.assertIs(is_history(RAISES_WHAT_DROPS, (4, 0)), True)
        self.refused(1000, RAISES_WHAT_DROPS, (4, 0))
        let = RAISES_WHAT_DROPS[:-1] + (999,)
        self.assertEqual(standard_of(let, (4, 0)), (0, 1))

    def test_the_first_one_along_the_result(self):
        for term, history, standard in CASES:
            limit = meanings.limit_along(term, standard)
            if limit is not None:
                self.refused(limit, term, history)
        # A step that makes 1001, to the left of the levels and to the right of them.
        levels = LEVELS[10:]
        history = innermost(levels)
        for term, limit in [((0, 0, 1) + RAISES_WHAT_DROPS + levels, 1000),
                            ((0, 0, 1) + levels + RAISES_WHAT_DROPS, 60)]:
            # The step that drops what would be raised comes first, then the one outside.
            inner = [at for at in steps_of(term) if term[at:at + 3] == (0, -1, 5)]
            made = step_done(term, inner[0])
            outer = inner[0] - 4
            now = step_done(made, outer)
            ahead = now.index(0, 4) if limit == 1000 else 3
            places = tuple([place + ahead for place in history])
            self.assertTrue(is_history(term, (inner[0], outer) + places))
            self.refused(limit, term, (inner[0], outer) + places)

    def test_terms_of_40_parts_and_of_41(self):
        self.assertEqual(standard_of(FORTY, (0,)), (0,))
        self.assertIs(is_standard(FORTY, (0,)), True)
        self.assertEqual(list(standard_histories(FORTY, 1)), [(), (0,)])
        for function in (standard_of, is_standard, first_fault):
            with self.assertRaises(InvalidTerm):
                function(FORTY_ONE, ())
        with self.assertRaises(InvalidTerm):
            list(standard_histories(FORTY_ONE, 1))

    def test_an_end_can_have_more_than_40_parts(self):
        self.assertGreater(len(end_of(FORTY, (0,))), 40)
        term = (0,) + COPY + (0, 0) + I + I + (-1,) * 20 + (1,)
        self.assertEqual(standard_of(term, (6, 5, 0)), (0, 2, 1, 23, 22))


class Generator(unittest.TestCase):

    def test_all_standard_histories_ascending(self):
        for term in lively_terms(44, 60, 16) + [TWICE, LOOP, CHAIN, LESS, (1,), I]:
            found = meanings.histories_to(term, 3)
            for most in range(4):
                wanted = [history for history in found
                          if len(history) <= most and is_standard(term, history)]
                made = list(standard_histories(term, most))
                self.assertEqual(made, wanted)
                self.assertEqual(made, sorted(made))

    def test_up_to_four_steps(self):
        for term in lively_terms(45, 25, 13) + [TWICE, LOOP, CHAIN]:
            wanted = [history for history in meanings.histories_to(term, 4)
                      if is_standard(term, history)]
            self.assertEqual(list(standard_histories(term, 4)), wanted)
        self.assertEqual(list(standard_histories(TWICE, 4)), [
            (), (0,), (0, 1), (0, 1, 0), (0, 1, 0, 0), (0, 1, 3), (0, 6), (5,)])

    def test_each_class_once(self):
        for term in lively_terms(46, 40, 14):
            made = list(standard_histories(term, 3))
            for one, other in itertools.combinations(made[:12], 2):
                try:
                    self.assertIs(are_one_class(term, one, other), False)
                except TooMany:
                    continue
            for history in meanings.histories_to(term, 2):
                standard = standard_of(term, history)
                self.assertEqual(standard in made, len(standard) <= 3)

    def test_no_step_at_all(self):
        self.assertEqual(list(standard_histories(TWICE, 0)), [()])
        self.assertEqual(list(standard_histories((1,), 4)), [()])

    def test_terms_that_are_not_let_are_left_out(self):
        self.assertEqual(list(standard_histories(RAISES_TOO_HIGH, 4)), [()])
        self.assertEqual(list(standard_histories(RAISES_WHAT_DROPS, 4)), [(), (4,)])
        ten = (0, -1) + (0,) * 9 + (1,) * 10
        term = (0,) + COPY + ten + (-1,) * 12 + (1,)
        self.assertEqual(len(term), 39)
        self.assertIs(is_history(term, (0,)), True)
        made = list(standard_histories(term, 3))
        self.assertEqual(made, [history for history in meanings.histories_to(term, 3)
                                if is_standard(term, history)])
        made = list(standard_histories(COPIES_FIRST, 2))
        self.assertIn((0,), made)
        self.assertNotIn((0, 0), made)
        self.assertIn((2,), made)

    def test_errors_come_with_the_first_result(self):
        for term, most, error in [(FORTY_ONE, 1, InvalidTerm), (None, 9, InvalidTerm),
                                  (TWICE, -1, InvalidNumber), (TWICE, 5, InvalidNumber),
                                  (TWICE, True, InvalidNumber), (TWICE, None, InvalidNumber)]:
            made = standard_histories(term, most)
            with self.assertRaises(error) as caught:
                next(made)
            if error is InvalidNumber:
                self.assertIs(caught.exception.given, most)

    def test_two_generators_do_not_disturb_one_another(self):
        one, other = standard_histories(TWICE, 4), standard_histories(TWICE, 4)
        self.assertEqual([next(one), next(one), next(other)], [(), (0,), ()])
        self.assertEqual([next(one)] + list(other)[:2], [(0, 1), (0,), (0, 1)])


if __name__ == "__main__":
    unittest.main()
