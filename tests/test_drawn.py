"""Stage 7: drawn out histories, and pieces of work."""

import random
import unittest

import meanings
from oncework.errors import (InvalidHistory, InvalidNumber, InvalidOperation, InvalidPlace,
                             InvalidTerm, TooMany)
from oncework.ground.behind import history_behind
from oncework.ground.standard import is_standard, standard_of
from oncework.ground.steps import end_of, is_history, rests_behind, step_done, steps_of
from oncework.labels.names import step_name
from oncework.pieces import drawn as module
from oncework.pieces.drawn import are_one_piece, drawn_out, had_without, is_drawn_out, pieces_to
from samples import (CHAIN, COPY, FORTY, FORTY_ONE, I, LEVELS, LOOP, NEW_ABOVE_400, NEW_TO_400,
                     RAISES, RAISES_TOO_HIGH, RAISES_WHAT_DROPS, TWICE, lively_terms, some_history)

# Terms with just so many histories of at most four steps.
HISTORIES_500 = (0, -1, 0, -1, 0, 0, 1, 1, 2, 0, -1, 0, -1, 0, 1, -1, 1, 1, 1, 0, -1, 1, -1, 1)
HISTORIES_501 = (0, -1, 0, 1, 0, 0, -1, 1, 1, 1, -1, 0, -1, 1, 0, -1, -1, 1, -1, 3)


def cases(seed, many, parts, most):
    """Terms with a history of at least one step, and what it comes to if it is drawn out."""
    rng = random.Random(seed)
    found = []
    for term in lively_terms(seed, many, parts):
        history = some_history(rng, term, rng.randint(1, most))
        if not history:
            continue
        try:
            standard = meanings.standard(term, history[:-1])
            if meanings.limit_along(term, standard) is None:
                found.append((term, history, meanings.drawn_out(term, history)))
        except meanings.TooBig:
            continue
    return found


CASES = cases(71, 900, 32, 6)


class Checks(unittest.TestCase):

    def refused(self, limit, function, *given):
        with self.assertRaises(TooMany) as caught:
            function(*given)
        self.assertEqual(caught.exception.limit, limit)


class Without(Checks):

    def test_a_rest_of_a_step(self):
        self.assertEqual(had_without(CHAIN, 0, (0,)), (3,))
        self.assertEqual(had_without(TWICE, 0, (1,)), (5,))
        self.assertEqual(had_without(TWICE, 0, (6,)), (5,))
        self.assertEqual(had_without(TWICE, 5, (0,)), (0,))

    def test_a_new_step_alone(self):
        self.assertIsNone(had_without(LOOP, 0, (0,)))
        self.assertIsNone(had_without((0, 0) + I + I + (7,), 1, (0,)))
        self.assertIsNone(had_without((0, -1, 0, 1, 7) + I, 0, (0,)))

    def test_steps_beside_the_made_part(self):
        # The made part is shorter than its call was, so what is behind it stands elsewhere.
        term = (0, 0, 1) + (0,) + I + (5,) + LOOP
        self.assertEqual(had_without(term, 3, (4, 4)), (7, 7))
        term = (0, 0, 1) + LOOP + (0,) + I + (5,)
        self.assertEqual(had_without(term, 12, (3, 3, 3)), (3, 3, 3))
        # A step ahead of the made part makes what is ahead longer.
        grows = (0,) + COPY + (0,) + I + I
        term = (0, 0, 0, 1) + grows + (0,) + I + (5,) + LOOP
        self.assertEqual(steps_of(term), (4, 9, 14, 18))
        self.assertEqual(had_without(term, 14, (4, 16, 5)), (4, 19, 5))

    def test_a_step_that_holds_the_made_part_or_stands_in_it(self):
        term = (0, 0, 1) + (0,) + I + LOOP + LOOP
        self.assertEqual(steps_of(term), (3, 6, 15))
        self.assertIsNone(had_without(term, 3, (12, 3)))
        self.assertIsNone(had_without(term, 3, (3, 12)))
        self.assertEqual(had_without(term, 3, (3, 3)), (6, 6))
        term = (0, -1, 0, 0, 1, 1) + LOOP + (0,) + I + (5,)
        self.assertEqual(had_without(term, 15, (0,)), (0,))
        self.assertIsNone(had_without(term, 15, (0, 4)))
        self.assertEqual(had_without(term, 15, (6, 6)), (6, 6))
        self.assertIsNone(had_without(term, 15, (6, 0)))

    def test_steps_in_one_copy(self):
        term = (0,) + COPY + LOOP
        self.assertEqual(had_without(term, 0, (1, 1)), (5, 5))
        self.assertEqual(had_without(term, 0, (10, 10)), (5, 5))
        self.assertIsNone(had_without(term, 0, (1, 10)))
        self.assertIsNone(had_without(term, 0, (10, 1)))

    def test_a_copy_that_becomes_longer_and_shorter(self):
        grows = (0,) + COPY + (0,) + I + (2,)
        term = (0,) + COPY + grows
        self.assertEqual(had_without(term, 0, (1, 2, 3)), (5, 6, 7))
        self.assertEqual(had_without(term, 0, (1, 6, 2)), (5, 10, 6))
        self.assertEqual(had_without(term, 0, (10, 11, 12)), (5, 6, 7))
        self.assertIsNone(had_without(term, 0, (1, 2, 7)))
        self.assertIsNone(had_without(term, 0, (1, 2, 3, 4)))

    def test_a_copy_within_functions_and_within_a_body(self):
        term = (0, -1, -1, 0, 2, 1) + (0,) + COPY + (0,) + I + (3,)
        self.assertEqual(steps_of(term), (0, 6, 11))
        self.assertEqual(had_without(term, 0, (2, 3, 4)), (6, 7, 8))

    def test_steps_of_the_body(self):
        term = (0, -1, 0) + LOOP + (1,) + I
        self.assertEqual(had_without(term, 0, (1, 1)), (3, 3))
        term = (0, -1) + LOOP + I
        self.assertEqual(had_without(term, 0, (0, 0, 0)), (2, 2, 2))

    def test_places_in_a_body_that_has_longer_copies_ahead(self):
        # A copy of five parts stands for the parameter, which is one.
        term = (0, -1, 0, 1) + LOOP + (0, 1, 0, 1, 1)
        self.assertEqual(had_without(term, 0, (6, 6)), (4, 4))
        # The first step of the body copies copies, and drops others.
        body = (0, 0, -1, 0, 1, 1, 1) + LOOP
        term = (0, -1) + body + (0, 7, 7)
        self.assertEqual(had_without(term, 0, (1, 8)), (3, 6))
        self.assertEqual(meanings.had_without(term, 0, (1, 8)), (3, 6))

    def test_a_call_or_a_function_that_comes_from_a_copy(self):
        term = (0, -1, 0, 0) + I + (1, 8) + I
        self.assertEqual(steps_of(step_done(term, 0)), (1,))
        self.assertIsNone(had_without(term, 0, (1, 0)))
        term = (0, -1, 0) + I + (1,) + LOOP
        self.assertIsNone(had_without(term, 0, (0, 0)))
        self.assertEqual(had_without(term, 0, (3, 3)), (6, 6))
        self.assertIsNone(had_without(term, 0, (3, 0)))
        self.assertEqual(had_without((0, -1, 0) + I + (0,) + I + (1,) + LOOP, 0, (3, 0)), (5, 2))

    def test_several_cases_tell_alike(self):
        several = 0
        for term, history, _ in CASES:
            place, behind = history[0], history[1:2]
            if not behind:
                continue
            told = [had(term, place, behind) for had in (
                meanings.had_as_rest, meanings.had_beside, meanings.had_in_copy,
                meanings.had_in_body)]
            found = [one for one in told if one is not None]
            several += len(found) > 1
            self.assertEqual(had_without(term, place, behind), found[0] if found else None)
        self.assertGreater(several, 100)

    def test_many_histories_as_the_document_tells_them(self):
        kinds = {}
        rng = random.Random(72)
        for term in lively_terms(72, 900, 34):
            for place in steps_of(term):
                made = meanings.step(term, place)
                behind = some_history(rng, made, 4)
                if not behind or len(made) > 400:
                    continue
                wanted = meanings.had_without(term, place, behind)
                self.assertEqual(had_without(term, place, behind), wanted, (term, place, behind))
                kind = len(behind) > 1, wanted is not None
                kinds[kind] = kinds.get(kind, 0) + 1
        self.assertEqual(len(kinds), 4)
        self.assertGreater(min(kinds.values()), 10)

    def test_the_same_calls_make_the_same_term(self):
        many = 0
        for term, history, _ in CASES:
            place, behind = history[0], history[1:]
            told = had_without(term, place, behind) if behind else None
            if told is not None and is_history(term, told):
                try:
                    self.assertIs(are_one_piece(term, told, history), True)
                except TooMany:
                    continue
                self.assertEqual(step_name(term, told), step_name(term, history))
                many += 1
        self.assertGreater(many, 100)

    def test_what_the_step_makes_can_have_any_size(self):
        # The term behind the step has a variable of 1001, which the next step drops.
        term = (0, -1, -1, 0, -1, 7, 2, 1000)
        with self.assertRaises(TooMany):
            step_done(term, 0)
        self.assertEqual(had_without(term, 0, (1,)), (3,))
        term = (0, -1, -1, 0, -1) + LOOP + (2, 1000)
        self.assertEqual(had_without(term, 0, (1, 1, 1)), (3, 3, 3))
        with self.assertRaises(InvalidHistory):
            had_without((0, -1, -1, 0, 2) + LOOP + (1000,), 0, (3,))

    def test_a_step_that_makes_more_than_400_parts(self):
        # No term of at most 40 parts has such a step, but one on the way can have it.
        term = (0,) + COPY + (0,) + LOOP + (-1,) * 250 + (1,)
        self.assertGreater(len(meanings.step(term, 0)), 400)
        for history in [(2,), (2, 2), (263, 263, 263), (2, 263)]:
            self.assertEqual(module.told_without(term, 0, history),
                             meanings.had_without(term, 0, history))
        self.assertEqual(module.told_without(term, 0, (263, 263)), (6, 6))
        self.assertEqual(max([len(meanings.step(small, 0)) for small in [
            (0, -1) + (0,) * (uses - 1) + (1,) * uses + (-1,) * (38 - 2 * uses) + (1,)
            for uses in range(1, 19)]]), 199)

    def test_what_is_told_can_pass_greater_terms(self):
        # Each step of the last part makes it longer by seven parts.
        function = (-1, 0, 0, 1, 1, 1)
        term = (0, 0, 3, 0, -1, 5) + (-1,) * 9 + (1, 0) + function + function
        history = tuple([4 + k for k in range(54)])
        told = tuple([16 + k for k in range(54)])
        self.assertEqual(had_without(term, 3, history), told)
        self.assertIs(is_history(step_done(term, 3), history), True)
        self.assertIs(is_history(term, told), False)
        self.assertIs(is_history(term, told[:53]), True)

    def test_errors(self):
        for place in [1, -1, 2, 10, None, True, (0,)]:
            with self.assertRaises(InvalidPlace):
                had_without(TWICE, place, ())
        for history in [(0, 1, 2), (2,), (5,), [1], (True,), None, 1, (1,) * 61]:
            with self.assertRaises(InvalidHistory):
                had_without(TWICE, 0, history)
        with self.assertRaises(InvalidOperation):
            had_without(TWICE, 0, ())
        with self.assertRaises(InvalidTerm):
            had_without(FORTY_ONE, 1, None)
        self.assertIsNone(had_without(FORTY, 0, (0,)))


class Drawn(Checks):

    def test_the_example(self):
        self.assertEqual(
            [drawn_out(TWICE, (0, 1)), drawn_out(TWICE, (0, 6)), drawn_out(TWICE, (0, 1, 0)),
             drawn_out(TWICE, (5, 0, 0)), drawn_out(CHAIN, (0, 0))],
            [(5,), (5,), (0, 1, 0), (0, 1, 0), (3,)])
        self.assertEqual((module.MOST_TO, module.MOST_HISTORIES), (4, 500))

    def test_many_histories_as_the_document_tells_them(self):
        shorter = longer = 0
        for term, history, drawn in CASES:
            self.assertEqual(drawn_out(term, history), drawn, (term, history))
            self.assertIs(is_drawn_out(term, history), drawn == history)
            shorter += len(drawn) < len(history)
            longer += len(drawn) > 2
        self.assertGreater(shorter, 200)
        self.assertGreater(longer, 30)

    def test_one_step_stays(self):
        for term, _, _ in CASES[:80]:
            for place in steps_of(term):
                if is_history(term, (place,)):
                    self.assertEqual(drawn_out(term, (place,)), (place,))
                    self.assertIs(is_drawn_out(term, (place,)), True)

    def test_it_is_standard_its_own_and_has_an_aim_of_the_same_name(self):
        for term, history, drawn in CASES:
            if is_history(term, drawn):
                self.assertIs(is_standard(term, drawn), True)
                self.assertEqual(drawn_out(term, drawn), drawn)
                self.assertIs(is_drawn_out(term, drawn), True)
                self.assertEqual(step_name(term, drawn), step_name(term, history))
                self.assertIs(are_one_piece(term, history, drawn), True)

    def test_a_drawn_out_history_longer_than_it_was(self):
        # The argument is reduced once; its two copies both have to be, for the aim.
        term = (0, -1, 0, 0, 1, 1, 7) + (0,) + I + I
        history = (7, 0, 1)
        self.assertEqual(end_of(term, history[:2]), (0, 0) + I + I + (6,))
        self.assertEqual(drawn_out(term, history), (0, 2, 1))
        history = (7, 0, 1, 0)
        self.assertEqual(end_of(term, history[:3]), (0,) + I + (6,))
        self.assertEqual(drawn_out(term, history), (0, 2, 1, 1, 0))
        self.assertGreater(len(drawn_out(term, history)), len(history))

    def test_unlike_drawn_out_histories_can_have_one_end(self):
        term = (0,) + I + (0,) + I + (1,)
        self.assertEqual([drawn_out(term, (0,)), drawn_out(term, (3,))], [(0,), (3,)])
        self.assertEqual(end_of(term, (0,)), end_of(term, (3,)))

    def test_sixty_steps_and_one_more(self):
        self.assertEqual(drawn_out(LOOP, (0,) * 60), (0,) * 60)
        self.assertIs(is_drawn_out(LOOP, (0,) * 60), True)
        both = (0, 0, 1) + LOOP + LOOP
        self.assertEqual(drawn_out(both, (3, 12) * 30), (12,) * 30)
        for function in (drawn_out, is_drawn_out):
            with self.assertRaises(InvalidHistory):
                function(LOOP, (0,) * 61)

    def test_the_limits_are_those_of_the_standard_history_of_all_but_the_aim(self):
        levels = LEVELS
        history = ()
        now = levels
        while steps_of(now):
            history += (max(steps_of(now)),)
            now = step_done(now, history[-1])
        for function in (drawn_out, is_drawn_out):
            self.refused(60, function, levels, history)
            self.refused(1000, function, (0, -1, 1) + RAISES_WHAT_DROPS, (7, 3, 0))
        self.assertEqual(drawn_out(RAISES_WHAT_DROPS, (4, 0)), (0,))
        term = (0, 1) + (0, -1, 1) + RAISES_WHAT_DROPS
        self.refused(1000, drawn_out, term, (9, 5, 2))
        self.assertEqual(drawn_out(term, (9, 2, 2)), (5,))

    def test_errors(self):
        for function in (drawn_out, is_drawn_out):
            with self.assertRaises(InvalidTerm):
                function(FORTY_ONE, ())
            for history in [(1,), [0], None, (True,), 0, (0, 2)]:
                with self.assertRaises(InvalidHistory):
                    function(TWICE, history)
            with self.assertRaises(InvalidOperation):
                function(TWICE, ())
            with self.assertRaises(InvalidHistory):
                function(RAISES_TOO_HIGH, (0,))
        self.assertEqual(drawn_out(FORTY, (0,)), (0,))


class Pieces(Checks):

    def test_one_piece_exactly_if_the_names_are_equal(self):
        rng = random.Random(73)
        alike = unlike = 0
        for term in lively_terms(73, 500, 30):
            for _ in range(4):
                one, other = some_history(rng, term, 4), some_history(rng, term, 4)
                if not one or not other or one == other:
                    continue
                try:
                    same = are_one_piece(term, one, other)
                except TooMany:
                    continue
                self.assertIs(same, step_name(term, one) == step_name(term, other))
                alike += same
                unlike += not same
        self.assertGreater(alike, 100)
        self.assertGreater(unlike, 100)

    def test_a_rest_of_an_aim_behind_further_steps(self):
        rng = random.Random(74)
        many = 0
        for term in lively_terms(74, 900, 34):
            ahead = some_history(rng, term, 2)
            now = end_of(term, ahead)
            further = some_history(rng, now, 2)
            for place in steps_of(now)[:3]:
                for rest in rests_behind(now, further, place):
                    one, other = ahead + (place,), ahead + further + (rest,)
                    if further and is_history(term, one) and is_history(term, other):
                        try:
                            self.assertIs(are_one_piece(term, one, other), True)
                            many += 1
                        except TooMany:
                            continue
        self.assertGreater(many, 200)

    def test_histories_of_one_class_can_be_put_for_one_another(self):
        many = 0
        for term, history, drawn in CASES:
            standard = standard_of(term, history[:-1])
            self.assertEqual(drawn_out(term, standard + history[-1:]), drawn)
            many += standard != history[:-1]
        self.assertGreater(many, 60)

    def test_pairs_that_are_not_one_piece(self):
        both = (0, 0) + I + I + (0,) + I + I
        self.assertEqual(end_of(both, ()), both)
        self.assertIs(are_one_piece(both, (1,), (6,)), False)
        self.assertIs(are_one_piece(TWICE, (0, 1), (0, 6)), True)
        self.assertEqual(end_of(TWICE, (0,)), both)
        # Equal places in equal terms.
        term = (0,) + I + (0,) + I + (0,) + I + (1,)
        self.assertEqual(end_of(term, (0,)), end_of(term, (3,)))
        self.assertIs(are_one_piece(term, (0, 0), (3, 0)), False)
        self.assertIs(are_one_piece(term, (0, 0), (3,)), True)
    def test_not_all_steps_of_a_piece_are_rests_of_one_of_them(self):
        term = (0, -1, 0, 1, 0, 1, 1, 0, -1, -1, 0, 2, 1, -1, 2)
        one, other = (7, 8), (0, 1, 2, 4, 5)
        self.assertIs(are_one_piece(term, one, other), True)
        self.assertEqual(drawn_out(term, other), one)
        # A step ahead of the one aim is left behind the steps ahead of the other one.
        self.assertEqual(history_behind(term, one[:-1], other[:-1]), (9,))

    def test_errors_of_the_first_one_come_first(self):
        # The standard history of five levels has more than sixty steps.
        levels = LEVELS[10:]
        term = (0, 0, 1) + levels + (0,) + I + (2,)
        now = term
        long = ()
        while len(steps_of(now)) > 1:
            long += (steps_of(now)[-2],)
            now = step_done(now, long[-1])
        long += steps_of(now)
        self.assertTrue(is_history(term, long))
        right = (len(term) - 4,)
        self.assertTrue(is_history(term, right))
        for one, other in [(long, long), (long, right), (right, long)]:
            self.refused(60, are_one_piece, term, one, other)
        self.assertIs(are_one_piece(term, right, right), True)
        for wrong, error in [((1,), InvalidHistory), ((), InvalidOperation)]:
            with self.assertRaises(error):
                are_one_piece(term, wrong, long)
            with self.assertRaises(error):
                are_one_piece(term, right, wrong)
            # All errors of the first one come ahead of those of the second one.
            self.refused(60, are_one_piece, term, long, wrong)
        with self.assertRaises(InvalidTerm):
            are_one_piece(FORTY_ONE, (), ())
        with self.assertRaises(InvalidOperation):
            are_one_piece(TWICE, (), (1,))
        with self.assertRaises(InvalidHistory):
            are_one_piece(TWICE, (1,), ())


class PiecesTo(Checks):

    def test_all_histories_of_small_terms(self):
        compared = 0
        for term in lively_terms(75, 120, 14) + [TWICE, CHAIN, LOOP, (1,), I]:
            for most in range(1, 5):
                histories = [history for history in meanings.histories_to(term, most) if history]
                if len(histories) > 120:
                    break
                wanted = {meanings.drawn_out(term, history) for history in histories}
                self.assertEqual(pieces_to(term, most), tuple(sorted(wanted)))
                compared += most == 4
        self.assertGreater(compared, 60)

    def test_by_hand(self):
        self.assertEqual(pieces_to(TWICE, 1), ((0,), (5,)))
        self.assertEqual(pieces_to(TWICE, 3), ((0,), (0, 1, 0), (5,)))
        self.assertEqual(pieces_to((1,), 4), ())
        self.assertEqual(pieces_to(LOOP, 4), ((0,), (0, 0), (0, 0, 0), (0, 0, 0, 0)))
        self.assertEqual(pieces_to(CHAIN, 4), ((0,), (3,)))

    def test_histories_that_are_not_let_are_none(self):
        self.assertEqual(pieces_to(RAISES_TOO_HIGH, 4), ())
        self.assertEqual(pieces_to(RAISES_WHAT_DROPS, 1), ((4,),))
        self.assertEqual(pieces_to(NEW_ABOVE_400, 2), ((0,), (0, 19)))
        self.assertEqual(pieces_to((0, 1) + NEW_TO_400, 2), ((2,), (2, 20)))

    def test_just_400_parts_and_1000(self):
        self.assertEqual(len(end_of(NEW_TO_400, (0, 0))), 400)
        self.assertEqual(pieces_to(NEW_TO_400, 2), ((0,), (0, 0), (0, 18)))
        self.assertEqual(pieces_to(RAISES, 4), ((0,),))

    def test_500_histories_and_501(self):
        for term, many in [(HISTORIES_500, 500), (HISTORIES_501, 501)]:
            self.assertEqual(len(meanings.histories_to(term, 4)) - 1, many)
        wanted = {drawn_out(HISTORIES_500, history)
                  for history in meanings.histories_to(HISTORIES_500, 4) if history}
        self.assertEqual(pieces_to(HISTORIES_500, 4), tuple(sorted(wanted)))
        self.refused(500, pieces_to, HISTORIES_501, 4)
        self.assertGreater(len(pieces_to(HISTORIES_501, 3)), 0)
        self.refused(500, pieces_to, (0, -1, 1) * 13 + (1,), 3)

    def test_the_error_of_the_first_history_that_raises_one(self):
        # The step at 4 makes (4, 0) a history, whose standard one would make 1001.
        for most in (2, 3, 4):
            # No step goes on behind (4, 0), so nothing is drawn out there.
            self.assertEqual(pieces_to(RAISES_WHAT_DROPS, most), ((0,), (4,)))
        term = (0, -1, 1) + RAISES_WHAT_DROPS
        self.refused(1000, pieces_to, term, 3)
        self.assertEqual(len(pieces_to(term, 2)), 3)

    def test_too_many_histories_come_ahead_of_what_drawing_out_raises(self):
        term = (0, 0, 1) + (0, -1, 1) + RAISES_WHAT_DROPS + (0, -1, 1) * 8 + (1,)
        self.refused(500, pieces_to, term, 4)

    def test_errors(self):
        for most in [0, -1, 5, True, False, None, "1", (1,), [2], 10 ** 60]:
            with self.assertRaises(InvalidNumber) as caught:
                pieces_to(HISTORIES_501, most)
            self.assertIs(caught.exception.given, most)
            with self.assertRaises(InvalidTerm):
                pieces_to(FORTY_ONE, most)
        self.assertEqual(pieces_to(FORTY, 4), ((0,), (0, 0)))


if __name__ == "__main__":
    unittest.main()
