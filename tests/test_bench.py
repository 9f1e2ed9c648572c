"""Stage 14: the bench."""

import random
import unittest

import meanings
from oncework.bench import bench as module
from oncework.bench.bench import Bench
from oncework.errors import (InvalidNumber, InvalidOperation, InvalidPlace, InvalidTerm, NothingToUndo,
                             TooMany)
from oncework.ground.behind import are_one_class, history_behind
from oncework.ground.standard import standard_of
from oncework.ground.steps import end_of, is_history, steps_of
from oncework.labels.lots import names_done
from oncework.labels.names import step_name
from oncework.pieces.drawn import drawn_out
from oncework.pieces.roots import is_last, last_form
from oncework.pieces.whole import fewest_pieces, piece_history, root_pieces, row_of
from samples import (CHAIN, COPY, DOUBLING, FORTY, FORTY_ONE, I, JUNK, LEVELS, LOOP, NEW_ABOVE_400,
                     RAISES_TOO_HIGH, RAISES_WHAT_DROPS, SIXTY_BY_PIECES, TWICE, WRONG_SMALL_TERMS,
                     WRONG_STEPS, doubling_history, lively_terms)

EXAMPLE = (0, -1, 0, 1, 1, 0, -1, 1, 2)
LIVELY = lively_terms(141, 250, 24) + lively_terms(152, 250, 38)


def some_deed(rng, bench):
    """Tries a deed of any kind; what it would raise is let by."""
    steps = steps_of(bench.term_now)
    try:
        kind = rng.randrange(4)
        if kind == 0 and steps:
            bench.do(rng.choice(steps))
        elif kind == 1 and steps:
            bench.do_piece(rng.choice(steps))
        elif kind == 2 and steps:
            bench.run(tuple([rng.randrange(9) for _ in range(rng.randint(1, 4))]))
        elif kind == 3 and bench.deeds:
            bench.undo(deeds=rng.randint(1, len(bench.deeds)))
    except TooMany:
        pass


def worked(rng, term, most):
    """A bench with the term on which several deeds were tried."""
    bench = Bench(term)
    for _ in range(rng.randint(0, most)):
        some_deed(rng, bench)
    return bench


def done_again(term, deeds):
    """The history that deeds tell, by the words of the document."""
    history = ()
    for word, told in deeds:
        if word == "do":
            history += (told,)
        elif word == "piece":
            name = meanings.step_name(term, history + (told,))
            history += meanings.lot_of_names(term, history, (name,))
        else:
            for index in told:
                steps = meanings.steps(meanings.end(term, history))
                history += (steps[index % len(steps)],)
    return history


class Checks(unittest.TestCase):

    def state(self, bench):
        return bench.first_term, bench.term_now, bench.history, bench.deeds

    def refused(self, error, bench, method, *given, **named):
        """The error that a method raises, without any effect."""
        before = self.state(bench)
        with self.assertRaises(error) as caught:
            getattr(bench, method)(*given, **named)
        self.assertIs(caught.exception.__class__, error)
        self.assertEqual(self.state(bench), before)
        return caught.exception

    def refused_many(self, limit, bench, method, *given):
        self.assertEqual(self.refused(TooMany, bench, method, *given).limit, limit)


class Deeds(Checks):

    def test_the_example(self):
        bench = Bench(EXAMPLE)
        self.assertEqual(
            [bench.do_piece(0), bench.term_now, bench.do_piece(1), bench.term_now, bench.deeds,
             str(bench)],
            [1, (0, 0, -1, 1, 2, 0, -1, 1, 2), 3, (0, 2, 2), (("piece", 0), ("piece", 1)),
             "bench of 3 parts, 3 steps done"])
        self.assertEqual((module.MOST_STEPS, module.MOST_DEEDS, module.MOST_ORDER), (60, 40, 60))

    def test_a_new_bench(self):
        for term in LIVELY[:30] + [(1,), I, FORTY]:
            bench = Bench(term)
            self.assertEqual(self.state(bench), (term, term, (), ()))
            self.assertEqual(bench.pieces_met(), ())
            self.assertEqual(len(bench), 0)

    def test_deeds_of_all_kinds_against_the_steps_that_they_tell(self):
        rng = random.Random(142)
        kinds = {"do": 0, "piece": 0, "run": 0}
        for term in LIVELY:
            bench = worked(rng, term, 9)
            self.assertEqual(bench.history, done_again(term, bench.deeds))
            self.assertEqual(bench.term_now, end_of(term, bench.history))
            self.assertEqual(bench.first_term, term)
            for word, _ in bench.deeds:
                kinds[word] += 1
        for many in kinds.values():
            self.assertGreater(many, 100)

    def test_do(self):
        bench = Bench(TWICE)
        self.assertEqual([bench.do(5), bench.do(0), bench.do(0)], [1, 2, 3])
        self.assertEqual(bench.history, (5, 0, 0))
        self.assertEqual(bench.term_now, I)
        self.assertEqual(bench.deeds, (("do", 5), ("do", 0), ("do", 0)))
        for place in range(-1, 4):
            self.refused(InvalidPlace, bench, "do", place)

    def test_do_piece_against_the_steps_of_one_name(self):
        rng = random.Random(143)
        more = 0
        for term in LIVELY:
            bench = worked(rng, term, 5)
            before = bench.history
            for place in steps_of(bench.term_now):
                twin = bench.twin()
                name = twin.name_here(place)
                try:
                    many = twin.do_piece(place)
                except TooMany:
                    continue
                further = twin.history[len(before):]
                self.assertEqual(many, len(twin.history))
                self.assertEqual(further, piece_history(term, before, name))
                self.assertEqual(further, names_done(term, before, (name,)))
                self.assertIn(place, steps_of(bench.term_now))
                more += len(further) > 1
        self.assertGreater(more, 20)

    def test_a_piece_of_a_step_that_is_not_the_least_one(self):
        bench = Bench(TWICE)
        bench.do(0)
        self.assertEqual(bench.do_piece(6), 3)
        self.assertEqual(bench.history, (0, 1, 3))
        self.assertEqual(bench.deeds, (("do", 0), ("piece", 6)))

    def test_run(self):
        bench = Bench(TWICE)
        # Of two steps the index 7 modulo 2 is the second one; 10 ** 59 is even.
        self.assertEqual(bench.run((7,)), 1)
        self.assertEqual(bench.history, (5,))
        bench = Bench(TWICE)
        self.assertEqual(bench.run((10 ** 59, 3, 3)), 3)
        self.assertEqual(bench.history, (0, 6, 1))
        self.assertEqual(bench.deeds, (("run", (10 ** 59, 3, 3)),))

    def test_run_ends_where_there_is_no_step(self):
        bench = Bench(CHAIN)
        self.assertEqual(bench.run((5, 4, 3, 2, 1)), 2)
        self.assertEqual(bench.deeds, (("run", (5, 4)),))
        self.assertEqual(bench.history, (3, 0))
        self.refused(InvalidOperation, bench, "run", (0,))
        self.assertEqual(Bench(CHAIN).run((0,) * 60), 2)

    def test_orders_that_are_none(self):
        bench = Bench(LOOP)
        for order in [(), (0,) * 61, [0], (-1,), (0, -1), (True,), (0, False), (0, None), 0, None, "0",
                      (10 ** 60,), ((0,),), (0, "1"), {0: 1}]:
            self.refused(InvalidOperation, bench, "run", order)
        self.assertEqual(bench.run((0,)), 1)
        bench = Bench(LOOP)
        self.assertEqual(bench.run((0,) * 60), 60)

    def test_orders_of_1_and_60_integers(self):
        bench = Bench(LOOP)
        self.assertEqual([bench.run((7,)), bench.run((8,))], [1, 2])
        self.refused_many(60, bench, "run", (0,) * 60)
        self.assertEqual(bench.run(tuple(range(58))), 60)
        self.assertEqual(bench.deeds[-1], ("run", tuple(range(58))))


class Undone(Checks):

    def test_one_several_all_and_too_many(self):
        bench = Bench(TWICE)
        states = [self.state(bench)]
        for place in (0, 1, 0, 0):
            bench.do(place)
            states.append(self.state(bench))
        twin = bench.twin()
        self.assertEqual(bench.undo(), 3)
        self.assertEqual(self.state(bench), states[3])
        self.assertEqual(bench.undo(deeds=2), 1)
        self.assertEqual(self.state(bench), states[1])
        self.assertEqual(self.refused(NothingToUndo, bench, "undo", deeds=2).wanted, 2)
        self.assertEqual(bench.undo(deeds=1), 0)
        self.assertEqual(self.state(bench), states[0])
        self.assertEqual(self.refused(NothingToUndo, bench, "undo").wanted, 1)
        self.assertEqual(self.refused(NothingToUndo, bench, "undo", deeds=10 ** 59).wanted, 10 ** 59)
        self.assertEqual(twin.undo(deeds=4), 0)
        self.assertEqual(twin, bench)

    def test_all_that_is_undone_is_as_it_was(self):
        rng = random.Random(144)
        many = 0
        for term in LIVELY:
            bench = Bench(term)
            states = [(self.state(bench), str(bench), bench.pieces_met())]
            for _ in range(6):
                deeds = len(bench.deeds)
                some_deed(rng, bench)
                if len(bench.deeds) == deeds + 1:
                    states.append((self.state(bench), str(bench), bench.pieces_met()))
                else:
                    del states[len(bench.deeds) + 1:]
            for left in range(len(bench.deeds), -1, -1):
                twin = bench.twin()
                if left < len(bench.deeds):
                    self.assertEqual(twin.undo(deeds=len(bench.deeds) - left), left)
                    many += 1
                self.assertEqual((self.state(twin), str(twin), twin.pieces_met()), states[left])
        self.assertGreater(many, 300)

    def test_deeds_by_keyword_alone(self):
        bench = Bench(TWICE)
        bench.do(0)
        with self.assertRaises(TypeError):
            bench.undo(1)
        for wrong in JUNK + [0, -1, (1,), [1]]:
            if wrong != 10 ** 60 - 1:
                self.assertIs(self.refused(InvalidNumber, bench, "undo", deeds=wrong).given, wrong)
        self.assertEqual(self.refused(NothingToUndo, bench, "undo", deeds=10 ** 60 - 1).wanted,
                         10 ** 60 - 1)


class Twins(Checks):

    def test_a_twin_is_equal_and_changes_by_itself(self):
        rng = random.Random(145)
        for term in LIVELY[:150]:
            bench = worked(rng, term, 6)
            twin = bench.twin()
            self.assertIs(twin.__class__, Bench)
            self.assertIsNot(twin, bench)
            self.assertEqual(self.state(twin), self.state(bench))
            self.assertIs(twin == bench, True)
            self.assertIs(twin != bench, False)
            before = self.state(bench)
            if twin:
                try:
                    twin.do(steps_of(twin.term_now)[0])
                except TooMany:
                    continue
                self.assertEqual(self.state(bench), before)
                self.assertIs(twin == bench, False)
                twin.undo()
                self.assertIs(twin == bench, True)
            if bench.deeds:
                bench.undo()
                self.assertEqual(self.state(twin), before)

    def test_equal_benches(self):
        self.assertEqual(Bench(TWICE), Bench(tuple(list(TWICE))))
        self.assertNotEqual(Bench(TWICE), Bench(CHAIN))
        one, other = Bench(TWICE), Bench(TWICE)
        one.do(5)
        other.run((1,))
        # The same steps by other deeds.
        self.assertEqual(one.history, other.history)
        self.assertNotEqual(one, other)
        other.undo()
        other.do(5)
        self.assertEqual(one, other)
        for value in JUNK + [TWICE, 0, 1, (), Bench, InvalidTerm("x")]:
            self.assertIs(one == value, False)
            self.assertIs(one != value, True)
            self.assertIs(value == one, False)

    def test_steps_of_the_term_now_are_in_a_bench(self):
        bench = Bench(TWICE)
        for value in range(-2, 12):
            self.assertIs(value in bench, value in (0, 5))
        bench.do(0)
        for value in range(-2, 12):
            self.assertIs(value in bench, value in (1, 6))
        for value in JUNK + [TWICE, (1,), [1], "1", bench]:
            self.assertIs(value in bench, False)
        self.assertIs(False in Bench(TWICE), False)
        self.assertIs(True in bench, False)

    def test_the_length_and_the_truth(self):
        rng = random.Random(146)
        for term in LIVELY[:100]:
            bench = worked(rng, term, 6)
            self.assertEqual(len(bench), len(bench.history))
            self.assertIs(bool(bench), len(steps_of(bench.term_now)) > 0)
            self.assertEqual(str(bench), "bench of %d parts, %d steps done" % (
                len(bench.term_now), len(bench.history)))
        self.assertIs(bool(Bench((1,))), False)
        self.assertIs(bool(Bench(CHAIN)), True)
        self.assertEqual(str(Bench((1,))), "bench of 1 parts, 0 steps done")

    def test_it_is_not_iterated_over_and_has_no_order(self):
        bench = Bench(TWICE)
        for wrong in [lambda: iter(bench), lambda: list(bench), lambda: bench < bench,
                      lambda: bench + bench, lambda: bench[0], lambda: bench >= 1]:
            with self.assertRaises(TypeError):
                wrong()

    def test_properties_are_not_set(self):
        bench = Bench(TWICE)
        for name in ("first_term", "term_now", "history", "deeds"):
            self.assertIsInstance(getattr(bench, name), tuple)
            with self.assertRaises(AttributeError):
                setattr(bench, name, ())


class Asked(Checks):

    def test_names_against_stage_5(self):
        rng = random.Random(147)
        many = 0
        for term in LIVELY:
            bench = worked(rng, term, 5)
            for place in steps_of(bench.term_now):
                if is_history(term, bench.history + (place,)):
                    self.assertEqual(bench.name_here(place),
                                     step_name(term, bench.history + (place,)))
                    many += 1
            met = []
            for count in range(len(bench.history)):
                name = step_name(term, bench.history[:count + 1])
                if name not in met:
                    met.append(name)
            self.assertEqual(bench.pieces_met(), tuple(met))
        self.assertGreater(many, 300)

    def test_shortest_against_stage_7(self):
        rng = random.Random(148)
        many = longer = 0
        for term in LIVELY:
            bench = worked(rng, term, 5)
            for place in steps_of(bench.term_now):
                try:
                    told = bench.shortest(place)
                except TooMany:
                    continue
                if is_history(term, bench.history + (place,)):
                    self.assertEqual(told, drawn_out(term, bench.history + (place,)))
                    many += 1
                    longer += len(told) > 1
        self.assertGreater(many, 300)
        self.assertGreater(longer, 40)

    def test_what_the_step_itself_would_make_is_not_looked_at(self):
        self.assertEqual(Bench(RAISES_TOO_HIGH).shortest(0), (0,))
        self.assertEqual(Bench(RAISES_TOO_HIGH).name_here(0), ((1,),))
        bench = Bench(NEW_ABOVE_400)
        bench.do(0)
        self.assertEqual(bench.shortest(0), (0, 0))
        bench = Bench(LOOP)
        bench.run((0,) * 60)
        self.assertEqual(bench.shortest(0), (0,) * 61)

    def test_errors_of_the_standard_history(self):
        term = (0, -1, 1) + RAISES_WHAT_DROPS
        bench = Bench(term)
        bench.do(7)
        bench.do(3)
        self.refused_many(1000, bench, "shortest", 0)
        # From within these levels are done in 14 steps, from the root in more than 60.
        bench = Bench(LEVELS)
        while len(bench) < 12:
            bench.do(steps_of(bench.term_now)[-1])
        self.assertIn(0, bench)
        self.refused_many(60, bench, "shortest", 0)

    def test_no_effect(self):
        bench = Bench(TWICE)
        bench.do(0)
        before = self.state(bench)
        bench.name_here(1), bench.pieces_met(), bench.shortest(6), bench.twin(), len(bench)
        bench.joined(Bench(TWICE))
        self.assertEqual(self.state(bench), before)

    def test_names_of_more_than_2000_integers(self):
        # With each step the name becomes longer.
        bench = Bench(LOOP)
        while not is_too_long(bench, 0):
            bench.run((0,))
            if len(bench.deeds) == 39:
                bench = with_one_deed(bench)
        self.assertGreater(len(bench), 40)
        self.refused_many(2000, bench, "name_here", 0)
        self.refused_many(2000, bench, "do_piece", 0)
        twin = bench.twin()
        met = twin.pieces_met()
        self.assertEqual(len(met), len(bench))
        self.assertLessEqual(sum(map(len, met[-1])), 2000)
        twin.do(0)
        self.refused_many(2000, twin, "pieces_met")
        twin.undo()
        self.assertEqual(twin.pieces_met(), met)
        self.assertEqual(bench.shortest(0), (0,) * (len(bench) + 1))

    def test_words_of_more_than_2000_integers(self):
        bench = Bench(DOUBLING)
        for place in doubling_history(10):
            bench.run((steps_of(bench.term_now).index(place),))
            if len(bench.deeds) == 40:
                bench = with_one_deed(bench)
        self.assertEqual(bench.history, doubling_history(10))
        for place in steps_of(bench.term_now):
            if not is_too_long(bench, place):
                self.assertEqual(bench.name_here(place), step_name(DOUBLING, bench.history + (place,)))


def with_one_deed(bench):
    """A bench with the same history, which is one deed."""
    return Bench(bench.first_term).joined(bench)


def is_too_long(bench, place):
    try:
        bench.name_here(place)
    except TooMany:
        return True
    return False


class Limits(Checks):

    def test_60_steps_and_a_61st(self):
        bench = Bench(LOOP)
        bench.run((0,) * 59)
        self.refused_many(60, bench, "run", (0, 0))
        self.assertEqual(bench.do(0), 60)
        self.refused_many(60, bench, "do", 0)
        # The name of this step is too long, which comes ahead of the steps of its piece.
        self.refused_many(2000, bench, "do_piece", 0)
        self.refused_many(60, bench, "run", (0,))
        self.refused(InvalidPlace, bench, "do", 1)
        bench = Bench((0, 0, 9) + LOOP + (0, -1, 1, 5))
        bench.run((0,) * 60)
        self.refused_many(60, bench, "do_piece", 12)
        bench.undo()
        bench.run((0,) * 59)
        self.assertEqual(bench.do_piece(12), 60)
        bench = Bench(SIXTY_BY_PIECES)
        while bench:
            many = bench.do_piece(steps_of(bench.term_now)[0])
        self.assertEqual(many, 60)
        self.assertIs(is_last(bench.term_now), True)

    def test_40_deeds_and_a_41st(self):
        bench = Bench(LOOP)
        for count in range(40):
            self.assertEqual(bench.do(0), count + 1)
        for method, given in [("do", 0), ("do_piece", 0), ("run", (0,)), ("run", (0,) * 60)]:
            self.refused_many(40, bench, method, given)
        for method in ("do", "do_piece"):
            self.refused(InvalidPlace, bench, method, 1)
        self.refused(InvalidOperation, bench, "run", ())
        bench.undo(deeds=2)
        bench.run((0,) * 22)
        self.assertEqual(len(bench), 60)
        bench.undo()
        bench.run((0,) * 21)
        bench.do(0)
        # Of a 41st deed and a 61st step the deed comes first.
        self.assertEqual((len(bench), len(bench.deeds)), (60, 40))
        for method, given in [("do", 0), ("do_piece", 0), ("run", (0,))]:
            self.refused_many(40, bench, method, given)
        self.assertEqual(bench.undo(), 39)
        self.assertEqual(bench.do(0), 60)

    def test_a_term_without_steps_ahead_of_a_41st_deed(self):
        term = (0, -1, 7) + LOOP
        bench = Bench(term)
        for _ in range(39):
            bench.do(3)
        bench.do(0)
        self.assertEqual(bench.term_now, (6,))
        self.assertEqual(len(bench.deeds), 40)
        self.refused(InvalidOperation, bench, "run", (0,))
        self.refused(InvalidPlace, bench, "do", 0)

    def test_terms_on_the_way_that_are_too_large(self):
        for method, given in [("do", 0), ("do_piece", 0), ("run", (0,)), ("run", (0, 0))]:
            self.refused_many(1000, Bench(RAISES_TOO_HIGH), method, given)
            bench = Bench(NEW_ABOVE_400)
            bench.do(0)
            self.refused_many(400, bench, method, given)
            self.refused(InvalidOperation, bench, "run", (0, -1))
        # The last step alone makes too large a term; nothing of the deed is done.
        bench = Bench(NEW_ABOVE_400)
        self.refused_many(400, bench, "run", (0, 0))
        self.assertEqual(bench.history, ())

    def test_whichever_comes_first_along_the_steps(self):
        # In the 60th step there is a variable of 1001; behind it would be a 61st one.
        term = (0, 0, 9) + LOOP + RAISES_TOO_HIGH
        for ahead, limit in [(59, 1000), (60, 60)]:
            bench = Bench(term)
            bench.run((0,) * ahead)
            self.refused_many(limit, bench, "do", 12)
            self.refused_many(limit, bench, "do_piece", 12)
            self.refused_many(limit, bench, "run", (1, 0))
        bench = Bench(term)
        bench.run((0,) * 59)
        self.refused_many(60, bench, "run", (0, 1))
        self.refused_many(1000, bench, "run", (1, 0, 0))

    def test_terms_of_40_parts_and_41(self):
        self.assertEqual(Bench(FORTY).do(0), 1)
        for term in WRONG_SMALL_TERMS + [FORTY_ONE]:
            with self.assertRaises(InvalidTerm):
                Bench(term)

    def test_wrong_places(self):
        bench = Bench(TWICE)
        bench.do(0)
        bench.undo()
        for place in WRONG_STEPS:
            for method in ("do", "do_piece", "name_here", "shortest"):
                self.refused(InvalidPlace, bench, method, place)


class Joined(Checks):

    def test_both_ways_round(self):
        rng = random.Random(149)
        many = same = 0
        for term in LIVELY + LIVELY:
            one, other = worked(rng, term, 3), worked(rng, term, 3)
            before = self.state(one), self.state(other)
            try:
                joined, turned = one.joined(other), other.joined(one)
            except TooMany:
                continue
            self.assertEqual((self.state(one), self.state(other)), before)
            self.assertEqual(joined.term_now, turned.term_now)
            self.assertEqual(joined.first_term, term)
            left = history_behind(term, other.history, one.history)
            self.assertEqual(joined.history, one.history + left)
            if left:
                self.assertEqual(joined.deeds[:-1], one.deeds)
                word, order = joined.deeds[-1]
                self.assertEqual((word, len(order)), ("run", len(left)))
                again = one.twin()
                again.run(order)
                self.assertEqual(again, joined)
                now = one.term_now
                for index, place in zip(order, left):
                    self.assertEqual(steps_of(now)[index], place)
                    now = meanings.step(now, place)
                many += 1
            else:
                self.assertEqual(joined, one)
                self.assertIsNot(joined, one)
                same += 1
        self.assertGreater(many, 150)
        self.assertGreater(same, 50)

    def test_benches_whose_histories_have_one_class(self):
        rng = random.Random(150)
        many = 0
        for term in LIVELY:
            one, other = worked(rng, term, 3), worked(rng, term, 3)
            try:
                alike = are_one_class(term, one.history, other.history)
                standard = standard_of(term, one.history)
            except TooMany:
                continue
            if alike:
                self.assertEqual(one.term_now, other.term_now)
                self.assertEqual(one.joined(other), one)
            if standard != one.history:
                bench = Bench(term)
                for place in standard:
                    bench.do(place)
                self.assertEqual(bench.term_now, one.term_now)
                self.assertEqual(bench.joined(one), bench)
                many += 1
        self.assertGreater(many, 5)

    def test_errors(self):
        bench = Bench(TWICE)
        for other in JUNK + [TWICE, Bench(CHAIN), Bench((1,)), Bench]:
            self.refused(InvalidOperation, bench, "joined", other)
        other = Bench(TWICE)
        other.do(0)
        self.assertEqual(bench.joined(other).deeds, (("run", (0,)),))
        bench = Bench(LOOP)
        for _ in range(40):
            bench.do(0)
        other = Bench(LOOP)
        other.run((0,) * 40)
        # Nothing is left of the other one, so no deed is added.
        self.assertEqual(bench.joined(other), bench)
        other.run((0,))
        self.refused_many(40, bench, "joined", other)

    def test_errors_of_the_history_behind_come_first(self):
        # Behind the one history the other one takes 62 steps.
        term = (0,) + LOOP + (0,) + COPY + LOOP
        one, other = Bench(term), Bench(term)
        one.do(10)
        other.run((2,) * 31)
        self.refused_many(60, one, "joined", other)
        for _ in range(39):
            one.do(1)
        self.assertEqual(len(one.deeds), 40)
        self.refused_many(60, one, "joined", other)
        other.undo()
        other.run((2,))
        self.refused_many(40, one, "joined", other)
        term = (0, 0, 9) + LOOP + (0, -1, 1) * 2 + (5,)
        one, other = Bench(term), Bench(term)
        one.run((0,) * 59)
        other.do(12)
        self.assertEqual(len(one.joined(other)), 60)
        one.do(3)
        self.refused_many(60, one, "joined", other)
        one.undo(deeds=2)
        for _ in range(40):
            one.do(3)
        self.refused_many(40, one, "joined", other)

    def test_what_a_meeting_makes(self):
        # Copies of what the other one made greater.
        one_term = (0, -1, 0, 0, 0, 0, 1, 1, 1, 1, 1) + (0, -1, 0, 0, 0, 1, 1, 1, 1) + (-1,) * 19 + (1,)
        self.assertEqual(len(one_term), 40)
        one, other = Bench(one_term), Bench(one_term)
        one.do(0)
        other.do(11)
        with self.assertRaises(TooMany) as caught:
            history_behind(one_term, other.history, one.history)
        self.refused_many(caught.exception.limit, one, "joined", other)


class Promises(Checks):

    def test_whole_pieces_alone_meet_no_name_again(self):
        rng = random.Random(151)
        many = 0
        for term in LIVELY:
            bench = Bench(term)
            for _ in range(5):
                if not bench:
                    break
                try:
                    bench.do_piece(rng.choice(steps_of(bench.term_now)))
                except TooMany:
                    break
                here = [bench.name_here(place) for place in steps_of(bench.term_now)]
                self.assertFalse(set(here) & set(bench.pieces_met()))
                self.assertEqual(row_of(term, bench.history), bench.pieces_met())
                many += 1
            self.assertEqual(len(bench.pieces_met()), len(bench.deeds))
        self.assertGreater(many, 500)

    def test_other_deeds_can_meet_a_name_again(self):
        bench = Bench(TWICE)
        bench.do(0)
        bench.do(1)
        self.assertIn(bench.name_here(3), bench.pieces_met())
        # And as many pieces are not met whatever is done.
        one, other = Bench((0, -1, 7) + CHAIN), Bench((0, -1, 7) + CHAIN)
        one.do(0)
        other.run((2, 1, 0))
        self.assertEqual(one.term_now, other.term_now)
        self.assertNotEqual(len(one.pieces_met()), len(other.pieces_met()))

    def test_joined_does_not_keep_the_pieces_that_were_met(self):
        one, other = Bench((0, -1, 7) + CHAIN), Bench((0, -1, 7) + CHAIN)
        one.do(0)
        other.run((1,))
        self.assertTrue(set(other.pieces_met()) - set(one.joined(other).pieces_met()))

    def test_least_steps_come_to_the_last_form_with_the_fewest_pieces(self):
        many = 0
        for term in LIVELY + [TWICE, CHAIN, LEVELS[15:]]:
            bench = Bench(term)
            try:
                while bench:
                    bench.do_piece(steps_of(bench.term_now)[0])
            except TooMany:
                continue
            self.assertIs(is_last(bench.term_now), True)
            self.assertEqual(bench.pieces_met(), root_pieces(term))
            try:
                self.assertEqual(bench.term_now, last_form(term))
            except TooMany:
                pass
            if len(term) <= 12:
                fewest = fewest_pieces(term, 4)
                self.assertEqual(fewest, len(bench.deeds) if len(bench.deeds) <= 4 else None)
                many += 1
        self.assertGreater(many, 20)

    def test_or_to_too_many(self):
        bench = Bench(LOOP)
        for _ in range(40):
            bench.do_piece(steps_of(bench.term_now)[0])
        self.refused_many(40, bench, "do_piece", 0)


if __name__ == "__main__":
    unittest.main()
