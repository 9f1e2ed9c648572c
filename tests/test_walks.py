"""Stage 10: walks, balanced walks, and the names that these tell."""

import random
import unittest

import meanings
import meanings_walks as model
from oncework.errors import (InvalidName, InvalidNumber, InvalidOperation, InvalidTerm, InvalidWalk,
                             TooMany)
from oncework.ground.steps import rests_behind, steps_of
from oncework.labels.names import is_name, step_name
from oncework.paths import walks as module
from oncework.paths.made import walk_of_step
from oncework.paths.walks import (balanced_walks, is_balanced, is_walk, name_of_walk, next_edges,
                                  walk_end, walk_of_name)
from samples import (AROUND, BALANCED_399, BOTH_TIMES, CHAIN, COPY, DEEP, DOUBLE, FORTY, FORTY_ONE, I,
                     LOOP, TWICE, WALK_400, WALK_401, lively_terms, random_terms, some_history)

# A call of a variable, an open variable, functions in functions, a function as an argument.
WAYS = (-1, 0, -1, 0, 0, 1, 1, 5, 0, 1, -1, 1)

# Terms with just so many balanced walks of at most 24 integers.
WALKS_500 = (0, 0, -1, 0, 0, 0, 1, 1, 0, 1, 1, -1, 0, 2, 2, -1, 0, 0, -1, 2, 0, 1, 1, 0, 1, 1,
             -1, -1, 1)
WALKS_501 = (0, 0, -1, 0, 0, 0, 1, 1, 0, 1, 1, 0, 1, 0, 1, 1, -1, 0, 0, -1, 2, 0, 1, 1, 0, 1, 1,
             -1, -1, 1)

# A step behind two steps, from whose functions it gets its own.
OVER = (0, 0, 0, -1, -1, -1, 1, 5, 6, 7)

SMALL = [term for term in lively_terms(101, 90, 11) + random_terms(101, 60, 9) if len(term) > 2]
WORKED = SMALL + [TWICE, CHAIN, LOOP, DEEP, DOUBLE, WAYS, OVER]
# Terms in which steps make new ones.
RICH = [term for term in lively_terms(102, 2500, 17)
        if max([0] + [len(walk) for walk in balanced_walks(term, 24)]) > 3]


class Ways(unittest.TestCase):

    def test_each_way_by_hand(self):
        self.assertEqual(meanings.facts(WAYS)[10][:3], (12, 8, "argument"))
        for walk, end, further in [
                ((3,), 2, (-7, -6, 4)),       # down at a function: its body, or up from its variables
                ((3, 4), 3, (5,)),            # down at a call
                ((5,), 4, (6,)),
                ((6,), 5, (-3,)),             # down at a variable: up above its function
                ((6, -3), 1, (-2, 9)),        # up to a call from its function part
                ((6, -3, 9), 8, (10,)),       # down to the argument, a call
                ((3, -7), 4, (6,)),           # up to a call from its argument
                ((3, -6), 4, (-5, 7)),
                ((10,), 9, ()),               # the function is the first part of the term
                ((6, -3, -2), 0, ()),         # nothing goes up above the first part
        ]:
            self.assertIs(is_walk(WAYS, walk), True)
            self.assertEqual(walk_end(WAYS, walk), end)
            self.assertEqual(next_edges(WAYS, walk), further)

    def test_up_from_a_body(self):
        # Up to the function 3 from its body, then above it, and above the call that holds it.
        term = (0, 0, 7, -1, -1, 0, 2, 1, 8)
        walk = (7,)
        self.assertEqual(next_edges(term, walk), (-4,))
        term = (0, 0, -1, -1, 0, 1, 2, -1, 1, 9)
        self.assertEqual(next_edges(term, (6,)), (-4,))
        self.assertEqual((walk_end(term, (6, -4)), next_edges(term, (6, -4))), (2, (-3,)))
        self.assertEqual(next_edges(term, (6, -4, -3)), (-2, 8))

    def test_an_open_variable_has_no_way(self):
        self.assertEqual(next_edges((0, 1, 1), (2,)), ())
        self.assertEqual(next_edges((-1, 0, 2, 1), (3,)), ())
        self.assertEqual(next_edges((0, -1, 0, 2, 1, 5), (2, 3, 4)), ())

    def test_the_first_part_has_no_edge(self):
        for term in [(0, 1, 1), I, LOOP]:
            for edge in (1, -1):
                self.assertIs(is_walk(term, (edge,)), False)
                self.assertIs(is_walk(term, (2, edge)), False)

    def test_walks_begin_down_to_the_function_part_of_a_call(self):
        for term in WORKED:
            begun = [edge for edge in range(-len(term) - 1, len(term) + 2) if is_walk(term, (edge,))]
            self.assertEqual(begun, model.beginnings(term))

    def test_all_walks_and_no_others(self):
        for term in WORKED[::3]:
            walks = model.walks_to(term, 6)
            for walk in walks:
                self.assertIs(is_walk(term, walk), True)
                self.assertEqual(next_edges(term, walk), tuple(model.ways(term, walk[-1])))
                at = model.part(walk[-1])
                self.assertEqual(walk_end(term, walk), at if walk[-1] > 0 else model.holder(term, at))
            let = set(walks)
            for walk in walks[::5]:
                for edge in range(-len(term), len(term) + 1):
                    self.assertIs(is_walk(term, walk + (edge,)),
                                  edge in next_edges(term, walk))
                for cut in range(1, len(walk)):
                    self.assertIn(walk[:cut], let)
                    self.assertIs(is_walk(term, walk[cut:]), walk[cut:] in let)

    def test_one_integer_400_and_401(self):
        self.assertEqual((len(WALK_400), len(WALK_401)), (400, 401))
        self.assertIs(is_walk(LOOP, (2,)), True)
        self.assertIs(is_walk(LOOP, WALK_400), True)
        self.assertIs(is_walk(LOOP, WALK_401), False)
        self.assertIs(is_walk(LOOP, ()), False)
        self.assertIs(is_balanced(LOOP, ()), False)
        self.assertEqual(walk_end(LOOP, WALK_400), 0)
        self.assertEqual(next_edges(LOOP, WALK_400), (2,))
        self.assertIsNone(name_of_walk(LOOP, WALK_400))
        for function in (walk_end, next_edges, name_of_walk):
            for walk in [(), WALK_401, AROUND * 1000]:
                with self.assertRaises(InvalidWalk):
                    function(LOOP, walk)

    def test_not_once_each_way(self):
        walk = AROUND + AROUND
        self.assertIs(is_walk(LOOP, walk), True)
        self.assertEqual(walk.count(4), 2)

    def test_terms_of_40_parts_and_41(self):
        self.assertIs(is_walk(FORTY, (2, 3, 4, -2, 6)), True)
        for function in (is_walk, is_balanced, walk_end, next_edges, name_of_walk):
            with self.assertRaises(InvalidTerm):
                function(FORTY_ONE, (2,))
        with self.assertRaises(InvalidTerm):
            balanced_walks(FORTY_ONE, 1)
        with self.assertRaises(InvalidTerm):
            walk_of_name(FORTY_ONE, ((1,),))
        self.assertEqual(balanced_walks(FORTY, 24), ((2,), (4, -2, 6)))
        self.assertEqual(walk_of_name(FORTY, ((1,),)), (2,))


class Balanced(unittest.TestCase):

    def test_the_row_of_marks_mark_by_mark(self):
        walk = (4, -2, 6, 7, 8, -7, 9)
        self.assertEqual([len(row) for row in model.marks_along(TWICE, walk)], [1, 2, 1, 2, 1, 2, 1])
        self.assertEqual(model.marks_along(TWICE, walk)[3], ("call", "call"))
        self.assertEqual(model.marks_along(TWICE, walk)[5], ("call", "copy"))
        self.assertIs(is_balanced(TWICE, walk), True)

    def test_all_walks_of_small_terms(self):
        many = 0
        for term in WORKED + RICH[:200]:
            walks = model.walks_to(term, 9)
            if len(walks) > 1500:
                continue
            balanced = [walk for walk in walks if model.is_balanced(term, walk)]
            for walk in walks:
                self.assertIs(is_balanced(term, walk), walk in balanced)
            for most in (1, 2, 5, 8, 9):
                self.assertEqual(balanced_walks(term, most),
                                 tuple([walk for walk in balanced if len(walk) <= most]))
            many += len([walk for walk in balanced if len(walk) > 3])
        self.assertGreater(many, 100)

    def test_longer_ones(self):
        for term in WORKED + RICH:
            walks = balanced_walks(term, 24)
            self.assertEqual(walks, tuple(sorted(set(walks))))
            for walk in walks:
                self.assertTrue(model.is_balanced(term, walk))
                self.assertLessEqual(len(walk), 24)

    def test_none_is_the_beginning_of_another_one(self):
        for term in WORKED + RICH + [WALKS_500]:
            walks = balanced_walks(term, 24)
            for one, other in zip(walks, walks[1:]):
                self.assertNotEqual(other[:len(one)], one)

    def test_a_step_is_one_integer(self):
        for term in WORKED:
            self.assertEqual(balanced_walks(term, 1),
                             tuple([(place + 2,) for place in steps_of(term)]))
            for place in steps_of(term):
                self.assertIs(is_balanced(term, (place + 2,)), True)

    def test_the_first_mark_is_never_taken(self):
        self.assertIs(is_walk(LOOP, (2, 3)), True)
        self.assertIs(is_balanced(LOOP, (2, 3)), False)
        self.assertIs(is_walk(DOUBLE, (4, -2)), True)
        self.assertIs(is_balanced(DOUBLE, (4, -2)), False)
        self.assertIs(is_balanced(DOUBLE, (4, -2, 6)), True)
        # It ends at a function, but a step ahead of it stands there with the first mark alone.
        self.assertIs(is_walk(DOUBLE, (2, -4, 5, -2, 6)), True)
        self.assertIs(is_balanced(DOUBLE, (2, -4, 5, -2, 6)), False)

    def test_other_values_are_none(self):
        for value in [None, 2, [2], (True,), (2, 3, 4), "2", ((2,),)]:
            self.assertIs(is_balanced(DOUBLE, value), False)

    def test_500_walks_and_501(self):
        self.assertEqual(len(balanced_walks(WALKS_500, 24)), 500)
        self.assertEqual(len(balanced_walks(WALKS_500, 23)), 500)
        self.assertEqual(len(balanced_walks(WALKS_501, 22)), len(balanced_walks(WALKS_501, 21)))
        for most in (23, 24):
            with self.assertRaises(TooMany) as caught:
                balanced_walks(WALKS_501, most)
            self.assertEqual(caught.exception.limit, 500)
        for most in (0, 25, True, None):
            with self.assertRaises(InvalidNumber):
                balanced_walks(WALKS_501, most)

    def test_how_many_there_are_at_most(self):
        self.assertEqual([balanced_walks(LOOP, most) for most in (1, 24)][0], ((2,),))
        for most in (1, 24):
            self.assertEqual(len(balanced_walks(I, most)), 0)
            self.assertEqual(len(balanced_walks((0, 1, 1), most)), 0)
        for most in [0, 25, -1, 10 ** 60, True, False, None, "1", (1,), [1]]:
            with self.assertRaises(InvalidNumber) as caught:
                balanced_walks(LOOP, most)
            self.assertIs(caught.exception.given, most)
        self.assertEqual((module.MAX_EDGES, module.MOST_EDGES, module.MOST_WALKS), (400, 24, 500))


class Names(unittest.TestCase):

    def test_names_are_read_along_walks(self):
        many = inner = 0
        for term in WORKED + RICH:
            for walk in balanced_walks(term, 24)[:40]:
                name = name_of_walk(term, walk)
                self.assertEqual(name, model.name_of_walk(term, walk))
                self.assertIs(is_name(term, name), True)
                self.assertEqual(walk_of_name(term, name), walk)
                many += 1
                inner += len(name) > 2
        self.assertGreater(many, 300)
        self.assertGreater(inner, 60)

    def test_by_hand(self):
        self.assertEqual(name_of_walk(DOUBLE, (2,)), ((1,),))
        # The letter 3, under the word of the step 0, the letter 5.
        self.assertEqual(name_of_walk(DOUBLE, (4, -2, 6)), ((1,), (3, 8, 5)))
        self.assertEqual(walk_of_name(DOUBLE, ((1,), (3, 8, 5))), (4, -2, 6))
        # The letter 1, over the word of the step 1, the letter 3.
        term = (0, 0, -1, -1, 1, 5, 6)
        self.assertEqual(name_of_walk(term, (2, 3, 4)), ((2,), (1, 7, 3)))
        self.assertEqual(walk_of_name(term, ((2,), (1, 7, 3))), (2, 3, 4))

    def test_over_and_under_in_one_another(self):
        words = set()
        for term in WORKED + RICH + [(0,) + BOTH_TIMES + (0,) + BOTH_TIMES + I]:
            for walk in balanced_walks(term, 24)[:200]:
                name = name_of_walk(term, walk)
                for row in name:
                    for sign in row[1::2]:
                        told = sign - len(term)
                        within = {(other - len(term)) % 2 for other in name[told // 2][1::2]}
                        words |= {(told % 2, way) for way in within}
        self.assertEqual(words, {(0, 0), (0, 1), (1, 0), (1, 1)})

    def test_none_for_a_walk_that_is_not_balanced(self):
        many = 0
        for term in SMALL[:40]:
            for walk in model.walks_to(term, 7)[:200]:
                if not model.is_balanced(term, walk):
                    self.assertIsNone(name_of_walk(term, walk))
                    many += 1
        self.assertGreater(many, 300)

    def test_names_of_steps(self):
        rng = random.Random(103)
        told = {}
        many = 0
        for term in lively_terms(103, 700, 34) + RICH + [LOOP, TWICE] * 5:
            history = some_history(rng, term, rng.randint(1, 7))
            name = step_name(term, history)
            if sum(map(len, name)) > 300:
                continue
            walk = walk_of_name(term, name)
            self.assertIs(is_balanced(term, walk), True)
            self.assertEqual(name_of_walk(term, walk), name)
            self.assertEqual(walk, walk_of_step(term, history))
            self.assertEqual(told.setdefault((term, walk), name), name)
            # From the call that became the step's call to the function that became its function.
            place = history[-1]
            call = [at for at in range(len(term)) if place in rests_behind(term, history[:-1], at)]
            function = [at for at in range(len(term))
                        if place + 1 in rests_behind(term, history[:-1], at)]
            self.assertEqual([meanings.facts(term)[walk[0] - 1][1]], call)
            self.assertEqual([walk_end(term, walk)], function)
            many += len(walk) > 3
        self.assertGreater(many, 120)

    def test_399_integers_and_401(self):
        self.assertEqual(len(BALANCED_399), 399)
        self.assertIs(is_balanced(LOOP, BALANCED_399), True)
        name = name_of_walk(LOOP, BALANCED_399)
        self.assertEqual(walk_of_name(LOOP, name), BALANCED_399)
        longer = name + ((7, 9 + 2 * (len(name) - 1), 8),)
        self.assertIs(is_name(LOOP, longer), True)
        # It is no balanced walk either, but there are too many integers first.
        with self.assertRaises(TooMany) as caught:
            walk_of_name(LOOP, longer)
        self.assertEqual(caught.exception.limit, 400)
        # Each word is three times as long as the one before it.
        huge = ((0,),) + tuple([(0, 9 + 2 * k, 0, 9 + 2 * k, 0, 9 + 2 * k, 0) for k in range(200)])
        self.assertIs(is_name(LOOP, huge), True)
        with self.assertRaises(TooMany):
            walk_of_name(LOOP, huge)

    def test_names_that_tell_no_balanced_walk(self):
        for name in [((0,),), ((2,),), ((3,),), ((1,), (3, 10, 5)), ((1,), (3, 11, 6)),
                     ((1,), (4, 11, 5)), ((6,), (3, 11, 5)), ((1,), (3, 11, 5, 11, 5))]:
            self.assertIs(is_name(TWICE, name), True)
            with self.assertRaises(InvalidOperation):
                walk_of_name(TWICE, name)
        for name in [((1, 10, 1),), (), None, [(1,)], ((10,),)]:
            with self.assertRaises(InvalidName):
                walk_of_name(TWICE, name)

    def test_words_of_all_kinds_against_their_walks(self):
        rng = random.Random(104)
        balanced = 0
        for term in SMALL:
            for _ in range(40):
                words = [(rng.randrange(len(term)),)]
                for _ in range(rng.randint(0, 3)):
                    word = (rng.randrange(len(term)),)
                    for _ in range(rng.randint(1, 2)):
                        way = rng.choice(["over", "under"])
                        word += ((way, meanings.sign_of(rng.choice(words))), rng.randrange(len(term)))
                    words.append(word)
                name = meanings.tell(len(term), words[-1])
                walk = model.walk_of_word(words[-1])
                self.assertIs(is_name(term, name), True)
                if model.is_balanced(term, walk):
                    balanced += 1
                    self.assertEqual(walk_of_name(term, name), walk)
                else:
                    with self.assertRaises(InvalidOperation):
                        walk_of_name(term, name)
        self.assertGreater(balanced, 50)

    def test_not_each_balanced_walk_is_that_of_a_step(self):
        self.assertIs(is_balanced(LOOP, BALANCED_399), True)
        # A term without a last form has steps with ever longer walks.
        walks = [walk_of_step(LOOP, (0,) * many) for many in range(1, 6)]
        self.assertEqual(len(set(walks)), 5)
        self.assertEqual(sorted(walks, key=len), walks)


if __name__ == "__main__":
    unittest.main()
