"""Stage 12: walks led by steps, and histories of walks."""

import random
import unittest

import meanings_walks as model
from oncework.errors import InvalidHistory, InvalidPlace, InvalidTerm, InvalidWalk, TooMany
from oncework.ground.steps import end_of, is_history, rests_behind, step_done, steps_of
from oncework.labels.names import step_name
from oncework.paths import made as module
from oncework.paths.made import history_of_walk, led_along, led_walk, used_steps, walk_of_step
from oncework.paths.walks import (balanced_walks, is_balanced, is_walk, name_of_walk, walk_of_name)
from oncework.paths.weights import does_pass
from oncework.pieces.drawn import are_one_piece, drawn_out, is_drawn_out
from oncework.pieces.numerals import numeral, power_term
from samples import (BALANCED_399, BOTH_TIMES, CHAIN, COPY, DOUBLE, FORTY, FORTY_ONE, I, LOOP, RAISES_TOO_HIGH,
                     RAISES_WHAT_DROPS, TWICE, WALK_400, WALK_401, lively_terms, some_history)

RICH = [term for term in lively_terms(121, 2500, 17)
        if max([0] + [len(walk) for walk in balanced_walks(term, 24)]) > 3]
WORKED = lively_terms(122, 150, 14) + RICH[:80] + [TWICE, DOUBLE, CHAIN]

# Ten times two times a function that gives back its argument is done. From within
# the whole is done in fewer steps than from the root, where it takes 60, or 61.
SIXTY = (0, 0, -1, 0, 1, 0, -1, 0, 1, 0, 1, 0, 1, 0, 1, 0, 1, -1, 1, -1, 0, 2, 0, 2, 0, 2, 0, 2, 0, 2,
         1, -1, 0, -1, 1, 1, 1)
SIXTY_ONE = (0, 0, -1, 0, 1, 0, 1, 0, -1, 0, 1, 0, 1, 0, 1, 0, 1, 0, 1, 0, 1, -1, 1, -1, 0, 2, 0, 2,
             0, 2, 0, 2, 1, -1, 0, -1, 1, 1, 1)

SIXTY_SEVEN = ((0, 0, -1) + (0, -1, 0, 1, 0, 1, 0, 1, 0, 1, -1, 1)
               + (-1, 0, 2, 0, 2, 0, 2, 0, 2, 0, 2, 1) + (-1, 0, 0, -1, -1, 1, 1, 1) + (1,))

# The drawn out history of a step of this name has a term of more than 400 parts.
GREAT = (0, -1, 0, 1, 1, -1, 0, -1, 0, 2, 0, 1, 0, 1, -1, -1, 4, -1, 0, 2, 0, 1, 0, 2, 0, 2, -1, 2)
GREAT_WALK = (24, -6, 2, -5, 4, -2, 6, -20, 21, 22, -18, 8, -14, 15, 16)
GREAT_HISTORY = (6, 20, 0, 33, 38, 47, 18, 0, 86, 171)


def from_within(term):
    """The history that always does the greatest place, to the last form."""
    history = ()
    while steps_of(term):
        history += steps_of(term)[-1:]
        term = step_done(term, history[-1])
    return history


class Checks(unittest.TestCase):

    def refused(self, limit, function, *given):
        with self.assertRaises(TooMany) as caught:
            function(*given)
        self.assertEqual(caught.exception.limit, limit)


class Led(Checks):

    def test_the_examples(self):
        self.assertEqual([led_walk(DOUBLE, 0, (2,)), led_along(DOUBLE, (0,), (2,)),
                          walk_of_step(DOUBLE, (0,)), walk_of_step(DOUBLE, (0, 0)),
                          used_steps(DOUBLE, (4, -2, 6))],
                         [(4, -2, 6), (4, -2, 6), (2,), (4, -2, 6), (0,)])
        self.assertEqual(module.MAX_LED, 2000)

    def test_the_rows_of_each_case_by_hand(self):
        # A call ahead of the step, so that no edge is above the first part.
        term = (0, 9, 0, -1, 0, 1, 0, 8, 1, -1, 1)
        self.assertEqual(step_done(term, 2), (0, 9, 0, -1, 1, 0, 7, -1, 1))
        self.assertEqual([model.led_row(term, 2, k) for k in range(1, 9)],
                         [(2,), (3, 4, 5), (6, -4, 10), (11,), (7,), (8,), (9, -4, 10), (11,)])
        self.assertEqual(led_walk(term, 2, (4,)), (6, -4, 10))
        self.assertEqual(led_walk(term, 2, (4, 5, -4, 6, 7)[:2]), (6, -4, 10, 11))
        self.assertEqual(led_walk(term, 2, (4, -5)), (6, -4, 10, -11))

    def test_a_body_that_is_one_variable_alone(self):
        term = (0, 0, -1, 1, -1, 1, 9)
        self.assertEqual(led_walk(term, 1, (2,)), (2, 3, 4, -3, 5))
        self.assertEqual(model.led_row(term, 1, 1), (2, 3, 4, -3, 5))
        # The variable refers to a function outside, so the argument is dropped.
        term = (-1, 0, 0, -1, 2, -1, 1, 9)
        self.assertEqual(step_done(term, 2), (-1, 0, 1, 9))
        self.assertEqual(led_walk(term, 2, (3,)), (3, 4, 5))
        term = (-1, 0, 0, -1, 1, 2, 9)
        self.assertEqual(led_walk(term, 2, (3,)), (3, 4, 5, -4, 6))

    def test_an_edge_that_is_gone_up_is_led_backward(self):
        # Up above the argument that came to stand in the place of the variable.
        term = (0, -1, 1, 0, -1, 1, -1, 1)
        made = step_done(term, 3)
        self.assertEqual(made, (0, -1, 1, -1, 1))
        self.assertEqual(model.led_row(term, 3, 3), (4, 5, 6, -5, 7))
        walk = (2, 3, -2, 4, 5, -4, 2)
        self.assertIs(is_walk(made, walk), True)
        self.assertEqual(led_walk(term, 3, walk),
                         (2, 3, -2, 4, 5, 6, -5, 7, 8, -7, 5, -6, -5, -4, 2))
        self.assertIs(is_walk(term, led_walk(term, 3, walk)), True)

    def test_all_walks_behind_a_step(self):
        cases = {"copied": 0, "dropped": 0, "alone": 0}
        for term in WORKED:
            for place in steps_of(term):
                made = model.step(term, place)
                if len(made) > 60:
                    continue
                walks = model.walks_to(made, 6)
                for walk in walks[::max(1, len(walks) // 60)]:
                    led = led_walk(term, place, walk)
                    self.assertEqual(led, model.led_walk(term, place, walk))
                    self.assertIs(is_walk(term, led), True)
                    self.assertIs(is_balanced(term, led), model.is_balanced(made, walk))
                    if len(model.stacks_along(made, walk)) == len(walk):
                        self.assertIs(does_pass(term, led), True)
                copies = rests_behind(term, (place,), model.argument(term, place))
                cases["copied"] += len(copies) > 1
                cases["dropped"] += len(copies) == 0
                cases["alone"] += term[place + 2] == 1
        for many in cases.values():
            self.assertGreater(many, 20)

    def test_balanced_walks_behind_a_step(self):
        passed = stuck = freed = 0
        for term in RICH + lively_terms(123, 300, 24):
            for place in steps_of(term):
                made = step_done(term, place)
                if len(made) > 40:
                    continue
                for walk in balanced_walks(made, 16):
                    led = led_walk(term, place, walk)
                    self.assertIs(is_balanced(term, led), True)
                    if does_pass(made, walk):
                        self.assertIs(does_pass(term, led), True)
                        passed += 1
                    else:
                        stuck += not does_pass(term, led)
                        freed += does_pass(term, led)
        self.assertGreater(passed, 500)
        self.assertGreater(stuck, 5)
        # The walk behind the step can stick where the one to which it is led does not.
        self.assertGreater(freed, 0)

    def test_each_walk_that_passes_comes_from_one_behind_its_least_used_step(self):
        many = 0
        for term in RICH:
            for walk in balanced_walks(term, 16):
                if len(walk) == 1 or not does_pass(term, walk):
                    continue
                place = used_steps(term, walk)[0]
                made = step_done(term, place)
                if len(made) > 40:
                    continue
                behind = [other for other in balanced_walks(made, 16)
                          if does_pass(made, other) and led_walk(term, place, other) == walk]
                self.assertEqual(len(behind), 1)
                many += 1
        self.assertGreater(many, 200)

    def test_along_histories(self):
        rng = random.Random(124)
        many = 0
        for term in WORKED + lively_terms(124, 100, 30):
            history = some_history(rng, term, rng.randint(0, 5))
            end = end_of(term, history)
            beginnings = model.beginnings(end) if len(end) < 80 else []
            for edge in beginnings[:6]:
                walk = (edge,)
                while len(walk) < 12 and model.ways(end, walk[-1]):
                    walk += (rng.choice(model.ways(end, walk[-1])),)
                wanted = walk
                for count in range(len(history) - 1, -1, -1):
                    now = end_of(term, history[:count])
                    wanted = model.led_walk(now, history[count], wanted)
                if len(wanted) <= 2000:
                    self.assertEqual(led_along(term, history, walk), wanted)
                    many += len(wanted) > len(walk)
        self.assertGreater(many, 150)

    def test_no_step_leads_to_the_walk_itself(self):
        self.assertEqual(led_along(LOOP, (), WALK_400), WALK_400)
        self.assertEqual(led_along(TWICE, (), (7,)), (7,))

    def test_led_walks_of_2000_edges_and_of_more(self):
        # Each step is of a function that gives back the argument, by which the walk goes.
        for times in range(1, 6):
            term = (0,) + COPY + (0, -1, 1) * times + COPY
            history = (5,) * times
            self.assertEqual(end_of(term, history), LOOP)
            if times < 5:
                led = led_along(term, history, WALK_400)
                self.assertEqual(len(led), 400 + 400 * times)
            else:
                self.refused(2000, led_along, term, history, WALK_400)
            with self.assertRaises(InvalidWalk):
                led_along(term, history, WALK_401)
        self.assertEqual(len(led_walk((0,) + COPY + (0, -1, 1) + COPY, 5, WALK_400)), 800)

    def test_what_a_step_makes_can_have_any_size(self):
        # A variable of 1001.
        term = (0, -1, -1, 0, -1, 1, 0, 2, 5, 1000)
        made = model.step(term, 0)
        self.assertEqual(max(made), 1001)
        self.assertEqual(led_walk(term, 0, (3,)), (5,))
        term = (0, -1) + (0,) * 17 + (1,) * 18 + (0, -1, 1)
        self.assertEqual(len(term), 40)
        self.assertEqual(len(model.step(term + (7,), 0)), 17 + 18 * 4)
        term = (0, -1) + (0,) * 12 + (1,) * 13 + (-1,) * 12 + (1,)
        self.assertEqual(len(term), 40)
        self.assertEqual(len(model.step(term, 0)), 181)
        self.assertEqual(led_walk(term, 0, (13,)), (15, -2, 28))

    def test_errors(self):
        for function in (led_walk, led_along):
            with self.assertRaises(InvalidTerm):
                function(FORTY_ONE, None, None)
        with self.assertRaises(InvalidTerm):
            used_steps(FORTY_ONE, None)
        for place in [1, 5, -1, True, None, (0,)]:
            with self.assertRaises(InvalidPlace):
                led_walk(DOUBLE, place, None)
        for walk in [(), (1,), (4,), (3,), WALK_401, None, [2], (True,), (2, 3, 4)]:
            with self.assertRaises(InvalidWalk):
                led_walk((0, -1, 0, 1, 1, 9), 0, walk)
            with self.assertRaises(InvalidWalk):
                led_along((0, -1, 0, 1, 1, 9), (0,), walk)
        for history in [(1,), (0, 0, 1), [0], None, (True,), 0]:
            with self.assertRaises(InvalidHistory):
                led_along(DOUBLE, history, None)
        with self.assertRaises(InvalidHistory):
            led_along(RAISES_TOO_HIGH, (0,), (2,))
        self.assertEqual(led_walk(FORTY, 0, (2,)), (4, -2, 6))


class WalksOfSteps(Checks):

    def test_they_are_those_of_their_names(self):
        rng = random.Random(125)
        many = 0
        for term in WORKED + lively_terms(125, 300, 36) + [LOOP, power_term(numeral(2), numeral(2))]:
            history = some_history(rng, term, rng.randint(1, 7))
            walk = walk_of_step(term, history)
            self.assertEqual(walk, model.walk_of_step(term, history))
            if len(walk) <= 400:
                self.assertEqual(walk, walk_of_name(term, step_name(term, history)))
                self.assertEqual(name_of_walk(term, walk), step_name(term, history))
                many += len(walk) > 1
        self.assertGreater(many, 60)

    def test_one_walk_exactly_if_one_piece_of_work(self):
        rng = random.Random(126)
        alike = unlike = 0
        for term in lively_terms(126, 700, 26):
            one, other = some_history(rng, term, 4), some_history(rng, term, 4)
            try:
                same = walk_of_step(term, one) == walk_of_step(term, other)
                self.assertIs(same, are_one_piece(term, one, other))
            except TooMany:
                continue
            alike += same and one != other
            unlike += not same
        self.assertGreater(alike, 30)
        self.assertGreater(unlike, 100)

    def test_a_step_and_its_rest(self):
        many = 0
        for term in WORKED:
            for first in steps_of(term):
                for place in steps_of(term):
                    for rest in rests_behind(term, (first,), place):
                        if is_history(term, (first, rest)):
                            self.assertEqual(walk_of_step(term, (first, rest)), (place + 2,))
                            many += 1
        self.assertGreater(many, 200)

    def test_the_last_step_is_looked_at(self):
        self.assertEqual(walk_of_step(LOOP, (0,)), (2,))
        with self.assertRaises(InvalidHistory):
            walk_of_step(RAISES_TOO_HIGH, (0,))
        for history in [(), (1,), [0], None, (True,), (0,) * 61]:
            with self.assertRaises(InvalidHistory):
                walk_of_step(LOOP, history)
        with self.assertRaises(InvalidTerm):
            walk_of_step(FORTY_ONE, ())
        self.assertEqual(walk_of_step(FORTY, (0,)), (2,))

    def test_2000_edges_and_more(self):
        sizes = []
        for many in range(1, 12):
            try:
                sizes.append(len(walk_of_step(LOOP, (0,) * many)))
            except TooMany as e:
                self.assertEqual(e.limit, 2000)
                break
        self.assertGreater(sizes[-1], 700)
        self.assertLess(len(sizes), 11)
        self.refused(2000, walk_of_step, LOOP, (0,) * 60)


class Used(Checks):

    def test_steps_whose_functions_have_an_edge(self):
        for term in WORKED:
            for walk in model.walks_to(term, 7)[::9]:
                wanted = tuple([at for at in steps_of(term) if at + 2 in walk or -at - 2 in walk])
                self.assertEqual(used_steps(term, walk), wanted)
        self.assertEqual(used_steps(TWICE, (7,)), (5,))
        self.assertEqual(used_steps(TWICE, (4, -2, 6, 7, 8, -7, 9)), (0, 5))
        self.assertEqual(used_steps((0, 1, 1), (2,)), ())
        self.assertEqual(used_steps(LOOP, WALK_400), (0,))

    def test_each_history_with_the_walk_does_a_rest_of_each(self):
        many = 0
        for term in RICH:
            walks = [walk for walk in balanced_walks(term, 14)
                     if len(walk) > 1 and does_pass(term, walk)]
            for history in some_histories(term, 4, 60):
                walk = model.walk_of_step(term, history)
                if walk in walks:
                    for place in used_steps(term, walk):
                        done = [at for count, at in enumerate(history[:-1])
                                if at in model.meanings.rests_along(term, history[:count], (place,))]
                        self.assertTrue(done, (term, history, place))
                        many += 1
        self.assertGreater(many, 100)

    def test_errors(self):
        for walk in [(), (1,), (-2,), WALK_401, None, [2], (True,), (2, 2)]:
            with self.assertRaises(InvalidWalk):
                used_steps(LOOP, walk)


def some_histories(term, most, many):
    """So many histories of one to so many steps."""
    rng = random.Random(len(term))
    return [history for history in [some_history(rng, term, rng.randint(1, most))
                                    for _ in range(many)] if history]


class Histories(Checks):

    def test_what_is_told_for_walks_of_steps(self):
        rng = random.Random(127)
        more = 0
        for term in WORKED + lively_terms(127, 500, 34) + [power_term(numeral(2), numeral(3))] * 40:
            history = some_history(rng, term, rng.randint(1, 9))
            walk = walk_of_step(term, history)
            if len(walk) > 400:
                continue
            try:
                drawn = drawn_out(term, history)
            except TooMany:
                continue
            self.assertEqual(history_of_walk(term, walk), drawn)
            more += len(drawn) > 2
        self.assertGreater(more, 60)

    def test_what_is_told_for_balanced_walks(self):
        told = stuck = 0
        for term in RICH + lively_terms(128, 60, 24):
            for walk in balanced_walks(term, 24)[:100]:
                history = history_of_walk(term, walk)
                if history is None:
                    self.assertIs(does_pass(term, walk), False)
                    stuck += 1
                    continue
                self.assertIs(does_pass(term, walk), True)
                self.assertEqual(walk_of_step(term, history), walk)
                self.assertIs(is_drawn_out(term, history), True)
                if len(history) > 1:
                    self.assertEqual(history[0], used_steps(term, walk)[0])
                    self.assertGreater(len(walk), 1)
                    told += 1
                else:
                    self.assertEqual(history, (walk[0] - 2,))
        self.assertGreater(told, 300)
        self.assertGreater(stuck, 10)

    def test_its_other_steps_are_those_of_the_walk_behind_the_first(self):
        many = 0
        for term in RICH:
            for walk in balanced_walks(term, 16):
                history = history_of_walk(term, walk)
                if history is None or len(history) == 1:
                    continue
                made = step_done(term, history[0])
                if len(made) <= 40:
                    behind = walk_of_step(made, history[1:])
                    self.assertEqual(led_walk(term, history[0], behind), walk)
                    self.assertEqual(history_of_walk(made, behind), history[1:])
                    many += 1
        self.assertGreater(many, 200)

    def test_by_hand(self):
        self.assertEqual(history_of_walk(TWICE, (4, -2, 6, 7, 8, -7, 9)), (0, 1, 0))
        self.assertEqual(history_of_walk(DOUBLE, (4, -2, 6)), (0, 0))
        self.assertEqual(history_of_walk(DOUBLE, (2,)), (0,))
        self.assertIsNone(history_of_walk(LOOP, BALANCED_399))
        # The walk begins in the argument: in the copy that it leaves first.
        term = (0, -1, 0, 0, 1, 1, 2) + (-1, 0, 1, -1, 1)
        many = 0
        for walk in balanced_walks(term, 24):
            history = history_of_walk(term, walk)
            if history is not None and walk[0] > 8:
                self.assertEqual(drawn_out(term, history), history)
                many += len(history) > 1
        self.assertGreater(many, 0)

    def test_60_steps_and_a_61st(self):
        within = from_within(SIXTY)
        walk = walk_of_step(SIXTY, within)
        self.assertLessEqual(len(walk), 400)
        self.assertEqual(len(history_of_walk(SIXTY, walk)), 60)
        self.assertEqual(history_of_walk(SIXTY, walk), drawn_out(SIXTY, within))
        for term in (SIXTY_ONE, SIXTY_SEVEN):
            walk = walk_of_step(term, from_within(term))
            self.assertLessEqual(len(walk), 400)
            self.assertIs(does_pass(term, walk), True)
            self.refused(60, history_of_walk, term, walk)
        # From the root it takes so many.
        now, many = SIXTY_SEVEN, 0
        while steps_of(now):
            now, many = step_done(now, steps_of(now)[0]), many + 1
        self.assertEqual(many, 67)

    def test_terms_that_are_too_large_along_the_history(self):
        self.assertIs(does_pass(GREAT, GREAT_WALK), True)
        self.assertEqual(walk_of_step(GREAT, GREAT_HISTORY), GREAT_WALK)
        self.refused(400, history_of_walk, GREAT, GREAT_WALK)
        # A variable of 1001 is made by the second step, which another order drops.
        term = (0, 1) + (0, -1, 1) + RAISES_WHAT_DROPS
        history = (9, 5, 2)
        self.assertIs(is_history(term, history), True)
        self.refused(1000, drawn_out, term, history)
        self.assertEqual(walk_of_step(term, history), (4,))
        self.assertEqual(history_of_walk(term, (4,)), (2,))

    def test_a_variable_above_1000_along_the_history(self):
        # The walk of a new step whose first one makes a variable of 1001.
        term = (0, 0, -1, -1, 0, -1, 3, 5, 999, 9)
        self.assertEqual(max(model.step(term, 1)), 1001)
        walk = (2, 3, 4)
        self.assertIs(is_balanced(term, walk), True)
        self.refused(1000, history_of_walk, term, walk)
        # What the last step makes is not looked at.
        self.assertEqual(history_of_walk(RAISES_TOO_HIGH, (2,)), (0,))
        term = (0, 0, -1, -1, 0, -1, 3, 5, 998, 9)
        self.assertEqual(history_of_walk(term, walk), (1, 0))

    def test_unlike_walks_have_unlike_histories(self):
        for term in RICH:
            told = [history_of_walk(term, walk) for walk in balanced_walks(term, 20)]
            told = [history for history in told if history is not None]
            self.assertEqual(len(told), len(set(told)))

    def test_errors(self):
        for walk in [(), (2, 3), (4, -2), (1,), None, [2], (True,), WALK_400, WALK_401, (2, 2), 2]:
            with self.assertRaises(InvalidWalk):
                history_of_walk(DOUBLE, walk)
            with self.assertRaises(InvalidTerm):
                history_of_walk(FORTY_ONE, walk)
        self.assertEqual(history_of_walk(FORTY, (4, -2, 6)), (0, 0))


class NotTrue(Checks):

    def test_walks_of_both_copies_are_led_to_one_walk(self):
        term = (0,) + COPY + (0, 7, 7)
        made = step_done(term, 0)
        self.assertEqual(made, (0, 0, 7, 7, 0, 7, 7))
        self.assertEqual(led_walk(term, 0, (3,)), led_walk(term, 0, (6,)))

    def test_not_each_walk_is_led_from_one_behind_each_step(self):
        # The argument with the step 3 is dropped.
        term = (0, -1, 7, 0) + I + (8,)
        self.assertIs(does_pass(term, (5,)), True)
        made = step_done(term, 0)
        self.assertEqual([walk for walk in model.walks_to(made, 5)
                          if led_walk(term, 0, walk) == (5,)], [])

    def test_names_and_walks_grow_together(self):
        term = (0,) + BOTH_TIMES + (0,) + BOTH_TIMES + I
        for history in some_histories(term, 6, 60):
            self.assertEqual(walk_of_name(term, step_name(term, history)), walk_of_step(term, history))


if __name__ == "__main__":
    unittest.main()
