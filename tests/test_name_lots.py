"""Stage 6: lots of names."""

import random
import unittest

import meanings
from oncework.errors import InvalidHistory, InvalidName, InvalidTerm, TooMany
from oncework.ground.behind import are_one_class
from oncework.ground.steps import end_of, is_history, lot_history, step_done, steps_of
from oncework.labels import lots as module
from oncework.labels.lots import are_names_done, finished_names, names_done, open_names
from oncework.labels.names import part_name, step_name
from samples import (COPY, DOUBLING, FORTY, FORTY_ONE, I, JUNK, LOOP, RAISES_TOO_HIGH, TWICE,
                     WRONG_LOTS_OF_NAMES, doubling_history, lively_terms, some_history)

ONE, SIX = ((1,),), ((6,),)
THIRD = ((1,), (6,), (3, 11, 5, 12, 7, 13, 8))


def cases(seed, many, parts, most):
    """Terms with a history and an ascending lot of some names that are met by it or behind it."""
    rng = random.Random(seed)
    found = []
    for start in lively_terms(seed, many, parts):
        term = start if rng.random() < 0.4 else (0,) + COPY + start
        history = some_history(rng, term, rng.randint(0, most))
        further = history + some_history(rng, end_of(term, history), 3)
        pool = set(meanings.step_names(term, history).values())
        if is_history(term, further):
            pool |= {meanings.step_name(term, further[:k + 1]) for k in range(len(further))}
            pool |= set(meanings.step_names(term, further).values())
        picked = rng.sample(sorted(pool), min(len(pool), rng.randint(0, 6)))
        found.append((term, history, tuple(sorted(picked))))
    return found


CASES = cases(61, 900, 30, 4)


def any_order(rng, term, history, names):
    """Further steps with names of them in any order, until no step has one; None if too many."""
    now = end_of(term, history)
    further = ()
    while True:
        told = meanings.step_names(term, history + further)
        places = [place for place in told if told[place] in names]
        if not places:
            return further
        if len(history + further) == 40:
            return None
        place = rng.choice(places)
        try:
            now = step_done(now, place)
        except TooMany:
            return None
        further += (place,)


class Checks(unittest.TestCase):

    def refused(self, limit, function, *given):
        with self.assertRaises(TooMany) as caught:
            function(*given)
        self.assertEqual(caught.exception.limit, limit)


class Open(Checks):

    def test_the_example(self):
        self.assertEqual(
            [open_names(TWICE, ()) == (ONE, SIX), open_names(TWICE, (0,)) == (SIX,),
             names_done(TWICE, (0,), (SIX,)), names_done(TWICE, (), (ONE, SIX)),
             names_done(TWICE, (), (SIX,))],
            [True, True, (1, 3), (0, 1, 3), (5,)])
        self.assertEqual(module.MAX_NAMES, 12)

    def test_the_names_of_all_steps_each_once(self):
        copies = 0
        for term, history, _ in CASES:
            told = meanings.step_names(term, history)
            self.assertEqual(open_names(term, history), tuple(sorted(set(told.values()))))
            copies += len(set(told.values())) < len(told)
        self.assertGreater(copies, 60)

    def test_no_step_at_the_end(self):
        self.assertEqual(open_names((1,), ()), ())
        self.assertEqual(open_names(TWICE, (0, 1, 3, 0)), ())

    def test_they_ascend_in_the_order_of_tuples(self):
        self.assertEqual(open_names(TWICE, (0, 1)), (THIRD, SIX))
        self.assertLess(THIRD, SIX)

    def test_more_than_forty_parts_at_the_end(self):
        term = (0,) + COPY + (0,) + I + (-1,) * 30 + (1,)
        self.assertEqual(open_names(term, (0,)), (((6,),),))

    def test_one_name_that_is_too_long(self):
        self.assertEqual(len(open_names(LOOP, (0,) * 10)), 1)
        self.refused(2000, open_names, LOOP, (0,) * 60)


class Done(Checks):

    def test_many_lots_as_the_document_tells_them(self):
        several = later = 0
        for term, history, names in CASES:
            try:
                further = meanings.lot_of_names(term, history, names)
            except meanings.TooBig:
                continue
            limit = meanings.limit_along(term, history + further)
            if limit is not None:
                self.refused(limit, names_done, term, history, names)
                continue
            self.assertEqual(names_done(term, history, names), further, (term, history, names))
            several += len(names) > 1 and len(further) > 1
            first = set(meanings.step_names(term, history).values())
            for k in range(len(further)):
                later += meanings.step_name(term, history + further[:k + 1]) not in first
        self.assertGreater(several, 60)
        self.assertGreater(later, 40)

    def test_lots_of_no_name_and_of_names_that_are_not_met(self):
        for term, history, _ in CASES[:60]:
            self.assertEqual(names_done(term, history, ()), ())
            self.assertEqual(names_done(term, history, (((0,), (0, len(term), 0)),)), ())
            self.assertIs(are_names_done(term, history, (), ()), True)

    def test_a_name_that_is_met_only_after_some_steps(self):
        self.assertEqual(names_done(TWICE, (), (THIRD,)), ())
        self.assertEqual(names_done(TWICE, (), (ONE, THIRD)), (0,))
        self.assertEqual(names_done(TWICE, (), (ONE, THIRD, SIX)), (0, 1, 0, 0))
        self.assertEqual(names_done(TWICE, (0, 6), (THIRD,)), ())
        self.assertEqual(names_done(TWICE, (0, 1), (THIRD,)), (0,))

    def test_a_new_step_directly_around_the_one_that_is_done(self):
        term = (0, 0) + I + I + (7,)
        name = step_name(term, (1, 0))
        self.assertEqual(names_done(term, (), (((2,),), name)), (1, 0))

    def test_steps_with_one_name_need_not_stand_beside_one_another(self):
        self.assertEqual(steps_of(end_of(TWICE, (0,))), (1, 6))
        # The step of the second function stands in the argument of its copy.
        term = (0, -1, 0, 1, 0, 1, 7, -1, 0) + I + (1,)
        now = end_of(term, (0,))
        self.assertEqual(steps_of(now), (0, 2, 6, 8))
        history = (0, 0)
        told = meanings.step_names(term, history)
        self.assertEqual(told[0], ((9,),))
        self.assertIn(((9,),), [told[place] for place in told if place > 0])

    def test_all_names_of_one_lot_in_another_one(self):
        both = 0
        for term, _, names in CASES:
            part = names[::2]
            try:
                first = names_done(term, (), part)
                whole = names_done(term, (), names)
                then = names_done(term, first, names)
            except TooMany:
                continue
            self.assertEqual(end_of(term, first + then), end_of(term, whole))
            both += len(first) > 0 and len(then) > 0
        self.assertGreater(both, 40)

    def test_a_lot_of_steps_of_the_first_term(self):
        rng = random.Random(62)
        for term in lively_terms(62, 200, 30):
            lot = tuple([place for place in steps_of(term) if rng.random() < 0.7])
            names = tuple([((place + 1,),) for place in lot])
            try:
                self.assertEqual(names_done(term, (), names), lot_history(term, lot))
            except TooMany as error:
                self.refused(error.limit, lot_history, term, lot)

    def test_two_lots_in_either_order_can_end_in_unlike_terms(self):
        there = names_done(TWICE, (), (ONE,))
        there += names_done(TWICE, there, (THIRD,))
        back = names_done(TWICE, (), (THIRD,))
        back += names_done(TWICE, back, (ONE,))
        self.assertEqual(end_of(TWICE, there), end_of(TWICE, back))
        one = (0, 1)
        two = names_done(TWICE, one, (THIRD,)) + names_done(TWICE, (0, 1, 0), (SIX,))
        self.assertEqual(two, (0, 0))
        term = (0, 0) + I + I + (7,)
        inner, outer = step_name(term, (1,)), step_name(term, (1, 0))
        there = names_done(term, (), (inner,)) + names_done(term, (1,), (outer,))
        back = names_done(term, (), (outer,)) + names_done(term, (), (inner,))
        self.assertEqual([end_of(term, there), end_of(term, back)], [(7,), (0,) + I + (7,)])


class Judging(Checks):

    def test_unlike_orders_end_in_one_term_and_are_judged_right(self):
        rng = random.Random(63)
        unlike = 0
        for term, history, names in CASES[:400]:
            try:
                wanted = names_done(term, history, names)
            except TooMany:
                continue
            self.assertIs(are_names_done(term, history, names, wanted), True)
            other = any_order(rng, term, history, names)
            if other is None:
                continue
            unlike += other != wanted
            self.assertIs(are_names_done(term, history, names, other), True)
            self.assertEqual(end_of(term, history + other), end_of(term, history + wanted))
            try:
                self.assertIs(are_one_class(term, history + other, history + wanted), True)
            except TooMany:
                continue
        self.assertGreater(unlike, 40)

    def test_orders_that_are_cut_short_or_go_on(self):
        for term, history, names in CASES[:400]:
            try:
                wanted = names_done(term, history, names)
            except TooMany:
                continue
            for count in range(len(wanted)):
                self.assertIs(are_names_done(term, history, names, wanted[:count]), False)
            for place in steps_of(end_of(term, history + wanted)):
                self.assertIs(are_names_done(term, history, names, wanted + (place,)), False)

    def test_a_step_without_a_name_of_them(self):
        self.assertIs(are_names_done(TWICE, (), (SIX,), (5,)), True)
        self.assertIs(are_names_done(TWICE, (), (SIX,), (0, 1, 3)), False)
        self.assertIs(are_names_done(TWICE, (), (ONE, SIX), (0, 1, 3)), True)
        self.assertIs(are_names_done(TWICE, (), (ONE, SIX), (5, 0)), True)
        self.assertIs(are_names_done(TWICE, (), (ONE, SIX), (0, 6, 1)), True)
        self.assertIs(are_names_done(TWICE, (), (ONE, SIX), (0, 6)), False)
        self.assertIs(are_names_done(TWICE, (), (ONE, SIX), (0, 6, 1, 0)), False)
        self.assertIs(are_names_done(TWICE, (0,), (SIX,), (6, 1)), True)
        self.assertIs(are_names_done(TWICE, (0,), (SIX,), (1, 6)), False)

    def test_values_of_every_kind(self):
        for value in JUNK + [0, [1, 3], (1, 3, None), (1, True), (1, 3.5), ((1, 3),), (-1,), (99,)]:
            self.assertIs(are_names_done(TWICE, (0,), (SIX,), value), False, repr(value)[:80])

    def test_sixty_steps_of_both_together(self):
        term = (0, 0, 1) + LOOP + (0,) + I + (7,)
        name = ((13,),)
        place = 12
        self.assertEqual(term[place:place + 2], (0, -1))
        self.assertEqual(names_done(term, (3,) * 59, (name,)), (place,))
        self.assertIs(are_names_done(term, (3,) * 59, (name,), (place,)), True)
        self.refused(60, names_done, term, (3,) * 60, (name,))
        self.assertIs(are_names_done(term, (3,) * 60, (name,), (place,)), False)
        self.assertEqual(names_done(term, (3,) * 60, ()), ())
        self.assertIs(are_names_done(term, (3,) * 60, (), ()), True)

    def test_terms_that_are_not_let(self):
        self.refused(1000, names_done, RAISES_TOO_HIGH, (), (((1,),),))
        self.assertIs(are_names_done(RAISES_TOO_HIGH, (), (((1,),),), (0,)), False)
        grows = (0, -1) + (0,) * 7 + (1,) * 8
        term = (0,) + COPY + grows + (0,) + COPY + (-1,) * 8 + (1,)
        self.assertEqual(len(term), 36)
        names = (((1,),), ((6,),), ((23,),))
        further = meanings.lot_of_names(term, (), names)
        self.assertEqual(meanings.limit_along(term, further), None)
        term = grows + grows + (-1,) * 5 + (1,)
        names = (((1,),), ((18,),))
        further = meanings.lot_of_names(term, (), names)
        limit = meanings.limit_along(term, further)
        self.assertEqual(limit, 400)
        self.refused(400, names_done, term, (), names)
        self.assertIs(are_names_done(term, (), names, further), False)


class Finished(Checks):

    def test_many_as_the_document_tells_them(self):
        many = 0
        for term, history, _ in CASES:
            done = {meanings.step_name(term, history[:k + 1]) for k in range(len(history))}
            left = set(meanings.step_names(term, history).values())
            self.assertEqual(finished_names(term, history), tuple(sorted(done - left)))
            many += len(done & left) > 0
        self.assertGreater(many, 20)

    def test_by_hand(self):
        self.assertEqual(finished_names(TWICE, ()), ())
        self.assertEqual(finished_names(TWICE, (0,)), (ONE,))
        self.assertEqual(finished_names(TWICE, (0, 1)), (ONE,))
        self.assertEqual(finished_names(TWICE, (0, 1, 3)), (ONE, SIX))
        self.assertEqual(finished_names(TWICE, (0, 1, 0)), (ONE, THIRD))
        self.assertEqual(finished_names(TWICE, (0, 1, 3, 0)), (ONE, THIRD, SIX))

    def test_a_finished_name_can_come_again(self):
        again = 0
        rng = random.Random(64)
        for term in lively_terms(64, 600, 30):
            history = some_history(rng, term, 6)
            finished = finished_names(term, history)
            further = some_history(rng, end_of(term, history), 2)
            if is_history(term, history + further):
                again += len(set(finished) & set(open_names(term, history + further))) > 0
        self.assertGreater(again, 0)

    def test_a_name_that_is_too_long(self):
        counts = [count for count in range(1, 61)
                  if sum(map(len, meanings.step_name(LOOP, (0,) * count))) <= 2000]
        longest = counts[-1]
        self.assertEqual(len(finished_names(LOOP, (0,) * longest)), longest)
        self.refused(2000, finished_names, LOOP, (0,) * (longest + 1))
        self.refused(2000, finished_names, LOOP, (0,) * 60)
        # The step that is left has too long a name, which is no error here.
        self.refused(2000, open_names, LOOP, (0,) * longest)

    def test_a_step_whose_name_is_too_long_has_no_name_of_them(self):
        counts = [count for count in range(1, 61)
                  if sum(map(len, meanings.step_name(LOOP, (0,) * count))) <= 2000]
        longest = counts[-1]
        last = part_name(LOOP, (0,) * (longest - 1), 1)
        self.assertEqual(names_done(LOOP, (0,) * (longest - 1), (last,)), (0,))
        self.assertEqual(names_done(LOOP, (0,) * longest, (last,)), ())
        self.assertIs(are_names_done(LOOP, (0,) * (longest - 1), (last,), (0,)), True)
        self.assertIs(are_names_done(LOOP, (0,) * longest, (last,), (0,)), False)
        self.assertIs(are_names_done(LOOP, (0,) * 55, (last,), ()), True)


    def test_steps_whose_words_are_too_long_beside_others(self):
        history = doubling_history(9)[:43]
        now = end_of(DOUBLING, history)
        place = [at for at in steps_of(now) if now[at:at + 5] == (0, -1, 1) + I][0]
        history += (place,)
        self.refused(2000, open_names, DOUBLING, history)
        told = meanings.step_names(DOUBLING, history)
        long = [at for at in told if sum(map(len, told[at])) > 2000]
        self.assertEqual(long, [place - 1])
        other = max(told)
        self.assertEqual(names_done(DOUBLING, history, (told[other],)),
                         meanings.lot_of_names(DOUBLING, history, (told[other],)))
        self.assertIs(are_names_done(DOUBLING, history, (told[other],), (place - 1,)), False)
        wanted = {meanings.step_name(DOUBLING, history[:count + 1])
                  for count in range(len(history))}
        self.assertEqual(finished_names(DOUBLING, history),
                         tuple(sorted(wanted - set(told.values()))))
        self.refused(2000, finished_names, DOUBLING, history + (place - 1,))


class Names(Checks):

    def test_twelve_names_and_thirteen(self):
        names = tuple([((k,),) for k in range(10)])
        more = tuple(sorted(names + (((1,), (1, 10, 1)), ((1,), (1, 10, 2)))))
        self.assertEqual(len(more), 12)
        self.assertEqual(names_done(TWICE, (), more), (0, 1, 3))
        self.assertIs(are_names_done(TWICE, (), more, (5, 0)), True)
        thirteen = tuple(sorted(more + (((1,), (1, 10, 3)),)))
        for function, given in [(names_done, ()), (are_names_done, ((),))]:
            with self.assertRaises(InvalidName):
                function(TWICE, (), thirteen, *given)

    def test_names_have_to_ascend(self):
        for names in [(SIX, ONE), (ONE, ONE), (ONE, SIX, SIX), [ONE, SIX], ONE, None]:
            with self.assertRaises(InvalidName):
                names_done(TWICE, (), names)
        self.assertEqual(names_done(TWICE, (0, 1), (THIRD, SIX)), (0,) + (0,))

    def test_a_name_of_2000_integers_and_one_of_2001(self):
        just = ((1,), tuple([1] + [10, 1] * 999))
        above = ((1,), (2,), tuple([1, 10, 1] + [12, 1] * 998))
        self.assertEqual([sum(map(len, name)) for name in (just, above)], [2000, 2001])
        self.assertEqual(names_done(TWICE, (), (just,)), ())
        with self.assertRaises(InvalidName):
            names_done(TWICE, (), (above,))

    def test_the_order_of_the_errors(self):
        for names in WRONG_LOTS_OF_NAMES:
            with self.assertRaises(InvalidTerm):
                names_done(FORTY_ONE, (), names)
            with self.assertRaises(InvalidHistory):
                names_done(TWICE, (1,), names)
            with self.assertRaises(InvalidName):
                names_done(TWICE, (), names)
            with self.assertRaises(InvalidName):
                are_names_done(TWICE, (), names, ())
            with self.assertRaises(InvalidName):
                names_done(RAISES_TOO_HIGH, (), names + (9,) if isinstance(names, tuple) else names)
        self.assertEqual(open_names(FORTY, ()), (((1,),),))


if __name__ == "__main__":
    unittest.main()
