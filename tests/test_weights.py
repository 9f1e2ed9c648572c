"""Stage 11: the machine with two stacks that goes along a walk."""

import itertools
import random
import unittest

import meanings_walks as model
from oncework.errors import InvalidNumber, InvalidOperation, InvalidTerm, InvalidWalk
from oncework.paths.made import history_of_walk, walk_of_step
from oncework.paths.walks import balanced_walks, is_balanced, next_edges, walk_of_name
from oncework.labels.names import step_name
from oncework.paths.weights import does_pass, first_log, stack_sizes, sticking_index
from samples import (BALANCED_399, COPY, DOUBLE, FORTY, FORTY_ONE, I, LOOP, TWICE, WALK_400, WALK_401,
                     lively_terms, random_terms, some_history)

# A walk can begin in its last part, and come to the inner one of two functions.
UNKNOWN = (0, -1, 0, -1, 1, 1, -1, 0, 1, 5)

SMALL = [term for term in lively_terms(111, 160, 13) + random_terms(111, 60, 11) if len(term) > 2]
RICH = [term for term in lively_terms(112, 2500, 17)
        if max([0] + [len(walk) for walk in balanced_walks(term, 24)]) > 3]
WORKED = SMALL + RICH[:60] + [TWICE, DOUBLE, LOOP, UNKNOWN]


def some_walk(rng, term, most):
    """A walk of at most so many integers that any of the ways go on."""
    walk = (rng.choice(model.beginnings(term)),)
    while len(walk) < most:
        ways = model.ways(term, walk[-1])
        if not ways:
            break
        walk += (rng.choice(ways),)
    return walk


def walks_of(term, most):
    walks = model.walks_to(term, most)
    return walks if len(walks) < 1200 else walks[::len(walks) // 600]


class Machine(unittest.TestCase):

    def check_walk(self, term, walk):
        stacks = model.stacks_along(term, walk)
        stuck = None if len(stacks) == len(walk) else len(stacks)
        self.assertEqual(sticking_index(term, walk), stuck)
        self.assertIs(does_pass(term, walk), stuck is None)
        for index, now in enumerate(stacks):
            self.assertEqual(stack_sizes(term, walk, index), (len(now.tape), len(now.log)))
        for index in range(len(stacks), len(walk)):
            with self.assertRaises(InvalidOperation):
                stack_sizes(term, walk, index)
        if stuck is None:
            self.assertEqual(first_log(term, walk), model.told_log(stacks[-1].first))
        else:
            with self.assertRaises(InvalidOperation):
                first_log(term, walk)
        return stacks

    def test_all_short_walks_by_the_rules(self):
        passed = stuck = 0
        for term in WORKED:
            for walk in walks_of(term, 8):
                is_through = len(self.check_walk(term, walk)) == len(walk)
                passed += is_through
                stuck += not is_through
        self.assertGreater(passed, 3000)
        self.assertGreater(stuck, 1000)

    def test_long_walks_by_the_rules(self):
        rng = random.Random(113)
        for term in WORKED:
            for _ in range(4):
                if model.beginnings(term):
                    self.check_walk(term, some_walk(rng, term, 40))
        for term in RICH:
            for walk in balanced_walks(term, 24)[:12]:
                self.check_walk(term, walk)

    def test_the_first_integer(self):
        for term in WORKED:
            for edge in model.beginnings(term):
                call = model.holder(term, model.part(edge))
                self.assertEqual(stack_sizes(term, (edge,), 0), (1, model.level(term, call)))
                self.assertEqual(first_log(term, (edge,)), (None,) * model.level(term, call))

    def test_by_hand(self):
        # Down to the call, to the variable, above the function, to the argument.
        walk = (4, -2, 6, 7, 8, -7, 9)
        self.assertEqual([stack_sizes(TWICE, walk, index) for index in range(7)],
                         [(1, 0), (2, 0), (1, 1), (2, 1), (1, 1), (2, 1), (1, 2)])
        self.assertEqual(first_log(TWICE, walk), ())
        self.assertIs(does_pass(TWICE, walk), True)
        self.assertEqual([stack_sizes(UNKNOWN, (9, -7, 2, -6, 4, -5), index) for index in range(6)],
                         [(1, 1), (2, 1), (3, 0), (2, 1), (3, 0), (2, 0)])
        self.assertEqual(stack_sizes(DOUBLE, (2, -4, 5), 0), (1, 0))

    def test_levels_of_more_than_one(self):
        rows = set()
        for term in WORKED + lively_terms(114, 200, 24):
            for variable, function in [(at, model.function(term, at)) for at in range(len(term))
                                       if term[at] > 0]:
                if function is not None:
                    rows.add(model.level(term, variable) - model.level(term, function))
        self.assertGreaterEqual(max(rows), 3)
        # The variable stands three levels below its function.
        term = (0, -1, 0, 5, 0, 6, 0, 1, 7, -1, 1)
        walk = (8, -2, 10)
        self.assertEqual([stack_sizes(term, walk, index) for index in range(3)],
                         [(1, 2), (2, 0), (1, 1)])
        self.assertIs(does_pass(term, walk), True)
        self.assertEqual(first_log(term, walk), (None, None))
        self.check_walk(term, (8, -2, 10, -11))

    def test_each_cause_to_stick(self):
        causes = {"empty": 0, "no call": 0, "no entry": 0, "another variable": 0}
        for term in WORKED:
            for walk in walks_of(term, 8):
                stacks = model.stacks_along(term, walk)
                if len(stacks) < len(walk):
                    at = len(stacks)
                    self.assertEqual(sticking_index(term, walk), at)
                    tape = stacks[-1].tape
                    way, told = model.mark(term, walk[at - 1], walk[at])
                    self.assertEqual(way, "take")
                    if not tape:
                        causes["empty"] += 1
                    elif told == "call":
                        self.assertNotEqual(tape[-1], "call")
                        causes["no call"] += 1
                    elif tape[-1] == "call":
                        causes["no entry"] += 1
                    else:
                        self.assertNotEqual(tape[-1][0], model.part(walk[at]))
                        causes["another variable"] += 1
        for cause, many in causes.items():
            self.assertGreater(many, 20, cause)

    def test_causes_by_hand(self):
        self.assertEqual(sticking_index(LOOP, (2, 3, 4, -2, 6, -8, 9, -6)), 5)
        self.assertEqual(sticking_index(DOUBLE, (2, -4)), 1)
        self.assertEqual(sticking_index(DOUBLE, (4, -2, 6, -7)), 3)
        # The tape is empty behind the call was taken.
        self.assertEqual(stack_sizes((0, -1, -1, 1, 5), (2, 3), 1), (0, 0))
        self.assertEqual(sticking_index((0, -1, -1, 1, 5), (2, 3, 4)), 2)
        # Into the argument by the first variable, and back by the other one.
        self.assertEqual(sticking_index(DOUBLE, (4, -2, 6, 7, -6, 2, -5)), 6)
        self.assertIsNone(sticking_index(DOUBLE, (4, -2, 6, 7, -6, 2, -4)))
        term = (0, -1, 0, 1, 1, 0, -1, 1, 9)
        self.assertIs(does_pass(term, (4, -2, 6)), True)
        self.assertEqual(sticking_index(term, (7, 8, -7, 9)), None)
        self.check_walk(LOOP, BALANCED_399)
        self.assertEqual(sticking_index(LOOP, BALANCED_399), 19)

    def test_indexes_at_both_ends_and_around_the_place_where_it_sticks(self):
        for term, walk in [(LOOP, BALANCED_399), (LOOP, WALK_400), (DOUBLE, (2, -4, 5))]:
            stuck = sticking_index(term, walk)
            self.assertIsNotNone(stuck)
            stack_sizes(term, walk, 0)
            stack_sizes(term, walk, stuck - 1)
            for index in (stuck, stuck + 1, len(walk) - 1):
                if index < len(walk):
                    with self.assertRaises(InvalidOperation):
                        stack_sizes(term, walk, index)
            for index in (len(walk), -1, 10 ** 60, True, None, "0", (0,)):
                with self.assertRaises(InvalidNumber) as caught:
                    stack_sizes(term, walk, index)
                self.assertIs(caught.exception.given, index)
        walk = (4, -2, 6, 7, 8, -7, 9)
        self.assertEqual(stack_sizes(TWICE, walk, 6), (1, 2))
        with self.assertRaises(InvalidNumber):
            stack_sizes(TWICE, walk, 7)
        with self.assertRaises(InvalidNumber):
            stack_sizes(TWICE, walk, False)

    def test_terms_and_walks_that_are_let(self):
        for function in (sticking_index, does_pass, first_log):
            function(FORTY, (2,))
            with self.assertRaises(InvalidTerm):
                function(FORTY_ONE, (2,))
            for walk in [(), WALK_401, (1,), None, [2], (True,)]:
                with self.assertRaises(InvalidWalk):
                    function(LOOP, walk)
        self.assertEqual(sticking_index(LOOP, WALK_400), 5)
        with self.assertRaises(InvalidWalk):
            stack_sizes(LOOP, WALK_401, None)


class FirstLog(unittest.TestCase):

    def test_entries_that_become_known_wherever_they_stand(self):
        deep = below = none = 0
        for term in WORKED + RICH:
            walks = balanced_walks(term, 24)[:60] + tuple(walks_of(term, 7))
            for walk in walks:
                if not does_pass(term, walk):
                    continue
                told = first_log(term, walk)
                self.assertEqual(told, model.told_log(model.stacks_along(term, walk)[-1].first))
                self.assertEqual(len(told), model.level(term, model.holder(term, walk[0] - 1)))
                for entry in told:
                    none += entry is None
                    if entry is not None:
                        deep += 1
                        below += any(row is not None for row in entry[1])
        self.assertGreater(deep, 100)
        self.assertGreater(below, 3)
        self.assertGreater(none, 100)

    def test_known_entries_in_known_entries(self):
        walk = (9, -7, 2, -6, 4, -5)
        self.assertEqual([first_log(UNKNOWN, walk[:cut]) for cut in range(1, 7)],
                         [(None,)] * 3 + [((5, (None,)),)] * 2 + [((5, ((4, ()),)),)])

    def test_the_machine_passes_with_known_entries_exactly_if_they_are_as_told(self):
        many = wrong = 0
        for term in WORKED + RICH:
            for walk in balanced_walks(term, 24)[:20] + tuple(walks_of(term, 6)[::3]):
                told = first_log(term, walk) if does_pass(term, walk) else ()
                if not any(told):
                    continue
                for place in (0, 1, len(term) - 1):
                    filled = fill(told, place)
                    self.assertEqual(len(model.stacks_along(term, walk, filled)), len(walk))
                    many += 1
                for other in spoilt(told, 0):
                    self.assertLess(len(model.stacks_along(term, walk, other)), len(walk))
                    wrong += 1
        self.assertGreater(many, 100)
        self.assertGreater(wrong, 100)


def fill(told, place):
    """A log with any known entry in the place of each unknown one."""
    return tuple([(place, ()) if entry is None else (entry[0], fill(entry[1], place))
                  for entry in told])


def spoilt(told, place):
    """Logs in which one known entry has another variable."""
    for at, entry in enumerate(told):
        if entry is not None:
            ahead, behind = fill(told[:at], place), fill(told[at + 1:], place)
            yield ahead + ((-1, fill(entry[1], place)),) + behind
            for row in spoilt(entry[1], place):
                yield ahead + ((entry[0], row),) + behind


class Promises(unittest.TestCase):

    def test_a_balanced_walk_passes_exactly_if_it_is_that_of_a_step(self):
        passed = stuck = 0
        for term in SMALL + RICH:
            for walk in balanced_walks(term, 24)[:60]:
                index = sticking_index(term, walk)
                history = history_of_walk(term, walk)
                if index is None:
                    self.assertEqual(walk_of_step(term, history), walk)
                    self.assertEqual(walk_of_name(term, step_name(term, history)), walk)
                    passed += len(walk) > 1
                else:
                    self.assertIsNone(history)
                    stuck += 1
        self.assertGreater(passed, 100)
        self.assertGreater(stuck, 10)

    def test_a_walk_that_sticks_is_that_of_no_history(self):
        many = 0
        for term in RICH:
            stuck = [walk for walk in balanced_walks(term, 12) if not does_pass(term, walk)]
            if stuck:
                for history in itertools.islice(histories(term, 4), 150):
                    self.assertNotIn(model.walk_of_step(term, history), stuck)
                many += 1
        self.assertGreater(many, 3)

    def test_steps_have_walks_that_pass(self):
        rng = random.Random(115)
        for term in lively_terms(115, 300, 34):
            history = some_history(rng, term, 6)
            walk = walk_of_step(term, history)
            if len(walk) <= 400:
                self.assertIs(does_pass(term, walk), True)

    def test_beginnings_of_walks_that_pass(self):
        for term in WORKED:
            for walk in walks_of(term, 7)[::4]:
                if does_pass(term, walk):
                    for cut in range(1, len(walk)):
                        self.assertIs(does_pass(term, walk[:cut]), True)

    def test_on_a_balanced_walk_it_sticks_only_up_from_a_variable(self):
        many = 0
        for term in RICH + [LOOP]:
            for walk in balanced_walks(term, 24):
                index = sticking_index(term, walk)
                if index is not None:
                    self.assertLess(walk[index], 0)
                    self.assertGreater(term[-walk[index] - 1], 0)
                    many += 1
        self.assertGreater(many, 10)

    def test_at_most_one_way_passes_if_the_top_is_known(self):
        both = one = 0
        for term in WORKED + RICH:
            for walk in walks_of(term, 7):
                if not does_pass(term, walk):
                    continue
                further = [edge for edge in next_edges(term, walk) if does_pass(term, walk + (edge,))]
                tape = model.stacks_along(term, walk)[-1].tape
                if tape and isinstance(tape[-1], int):
                    both += len(further) > 1
                else:
                    self.assertLessEqual(len(further), 1)
                    one += len(further) == 1
        self.assertGreater(both, 10)
        self.assertGreater(one, 500)

    def test_what_is_not_true(self):
        # The same ways but for a variable of the same function.
        term = (0, -1, 0, 1, 1, 0, -1, 0, 1, 1, -1, 1)
        pairs = 0
        for small in RICH:
            for walk in balanced_walks(small, 16):
                if does_pass(small, walk):
                    for at, edge in enumerate(walk):
                        if edge < 0 and small[-edge - 1] > 0:
                            function = model.function(small, -edge - 1)
                            for other in range(len(small)):
                                like = walk[:at] + (-other - 1,)
                                if (small[other] > 0 and -other - 1 != edge
                                        and model.function(small, other) == function):
                                    self.assertIs(model.is_walk(small, like), True)
                                    pairs += not does_pass(small, like)
        self.assertGreater(pairs, 5)
        self.assertIs(is_balanced(term, (2,)), True)
        # The log is not longest at the end, and not all unknown entries become known.
        longest = unknown = 0
        for small in RICH:
            for walk in balanced_walks(small, 24):
                if does_pass(small, walk):
                    sizes = [stack_sizes(small, walk, index)[1] for index in range(len(walk))]
                    longest += sizes[-1] < max(sizes)
                    unknown += None in first_log(small, walk)
        self.assertGreater(longest, 5)
        self.assertGreater(unknown, 5)


def histories(term, most):
    """All histories of one to so many steps."""
    waiting = [((), term)]
    while waiting:
        history, now = waiting.pop(0)
        for place in [at for at in range(len(now) - 1) if now[at:at + 2] == (0, -1)]:
            made = model.step(now, place)
            yield history + (place,)
            if len(history) + 1 < most and len(made) <= 60:
                waiting.append((history + (place,), made))


if __name__ == "__main__":
    unittest.main()
