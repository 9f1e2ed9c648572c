"""What is promised over the whole program: its ways to one thing come to one thing."""

import random
import unittest

import meanings
import meanings_walks as model
from oncework.bench.bench import Bench
from oncework.bench.log import log_text, read_log
from oncework.errors import TooMany
from oncework.ground.behind import are_one_class, history_behind, met_end
from oncework.ground.standard import standard_of
from oncework.ground.steps import end_of, is_history, step_done, steps_of
from oncework.labels.lots import are_names_done, names_done, open_names
from oncework.labels.names import step_name
from oncework.paths.made import history_of_walk, walk_of_step
from oncework.paths.reader import read_form
from oncework.paths.walks import balanced_walks, is_balanced, name_of_walk, walk_of_name
from oncework.paths.weights import sticking_index
from oncework.pieces.drawn import are_one_piece, drawn_out
from oncework.pieces.numerals import numeral, numeral_of, power_term, product_term, sum_term
from oncework.pieces.roots import last_form, root_history
from oncework.pieces.whole import fewest_pieces, piece_rows, root_pieces, row_history
from oncework.prose.shell import Shell
from oncework.prose.texts import read_row, read_rows, read_term, write_row, write_rows, write_term
from samples import CHAIN, COPY, I, LEVELS, LOOP, SIXTY_BY_PIECES, TWICE, lively_terms, some_history

LIVELY = lively_terms(191, 300, 28)
NUMBERS = [power_term(numeral(2), numeral(3)), product_term(numeral(3), numeral(3)),
           sum_term(numeral(2), numeral(4)), power_term(numeral(3), numeral(2))]


def told_or_limit(function, *given):
    try:
        return function(*given)
    except TooMany as e:
        return e.limit


class OneBench(unittest.TestCase):

    def test_led_by_lines_by_calls_and_by_its_log(self):
        rng = random.Random(192)
        many = 0
        for term in LIVELY:
            bench, told = Bench(term), Bench(term)
            shell = Shell(told)
            for _ in range(8):
                place = rng.choice(steps_of(bench.term_now) or (0,))
                order = tuple([rng.randrange(5) for _ in range(rng.randint(1, 3))])
                line, call = rng.choice([
                    ("do %d" % place, lambda: bench.do(place)),
                    ("piece %d" % place, lambda: bench.do_piece(place)),
                    ("run " + write_row(order), lambda: bench.run(order)),
                    ("undo 1", lambda: bench.undo())])
                answer = shell.say(line)
                try:
                    self.assertEqual(answer.split(" ")[-1], str(call()))
                except TooMany as e:
                    self.assertEqual(answer, "too many %d" % e.limit)
                except LookupError:
                    self.assertEqual(answer, "nothing to undo")
                except ValueError:
                    self.assertEqual(answer, "invalid")
                self.assertEqual(told, bench)
                again, size = read_log(log_text(bench))
                self.assertEqual(again, told)
                self.assertEqual(size, len(log_text(told)))
                self.assertEqual((again.history, again.term_now, again.pieces_met()),
                                 (told.history, told.term_now, told.pieces_met()))
                many += 1
        self.assertEqual(many, 8 * len(LIVELY))

    def test_what_a_shell_tells_is_what_the_functions_tell(self):
        rng = random.Random(193)
        for term in LIVELY[:150]:
            bench = Bench(term)
            shell = Shell(bench)
            for place in some_history(rng, term, 4):
                shell.say("do %d" % place)
            self.assertEqual(read_term(shell.say("term")), end_of(term, bench.history))
            self.assertEqual(read_row(shell.say("history")), bench.history)
            for place in steps_of(bench.term_now):
                history = bench.history + (place,)
                if is_history(term, history):
                    name = read_rows(shell.say("name %d" % place))
                    self.assertEqual(name, step_name(term, history))
                    walk = shell.say("walk %d" % place)
                    if not walk.startswith("too many"):
                        self.assertEqual(read_row(walk), walk_of_step(term, history))
                        self.assertEqual(name_of_walk(term, read_row(walk)), name)
                    self.assertEqual(shell.say("short %d" % place),
                                     write_row(drawn_out(term, history)))

    def test_equal_calls_on_equal_states(self):
        for term in LIVELY[:60] + NUMBERS:
            for function in (read_form, root_pieces, last_form):
                self.assertEqual(told_or_limit(function, term), told_or_limit(function, term))
            self.assertEqual(balanced_walks(term, 12), balanced_walks(term, 12))
            self.assertEqual(read_term(write_term(term)), term)


class OneEnd(unittest.TestCase):

    def ends(self, term):
        """All last forms to which the ways lead that come to one."""
        ends = [told_or_limit(last_form, term), told_or_limit(read_form, term)]
        row = told_or_limit(root_pieces, term)
        if isinstance(row, tuple):
            ends.append(end_of(term, row_history(term, row)))
        for pick in (0, -1):
            bench, pieces = Bench(term), Bench(term)
            try:
                while bench:
                    bench.run((steps_of(bench.term_now).index(steps_of(bench.term_now)[pick]),))
                ends.append(bench.term_now)
            except TooMany:
                pass
            try:
                while pieces:
                    pieces.do_piece(steps_of(pieces.term_now)[pick])
                ends.append(pieces.term_now)
            except TooMany:
                pass
        return [end for end in ends if isinstance(end, tuple)]

    def test_all_ways_come_to_one_last_form(self):
        many = 0
        for term in LIVELY + NUMBERS + [TWICE, CHAIN, LEVELS[10:], SIXTY_BY_PIECES]:
            ends = self.ends(term)
            self.assertLessEqual(len(set(ends)), 1)
            many += len(ends) > 4
        self.assertGreater(many, 200)

    def test_random_orders(self):
        rng = random.Random(194)
        many = 0
        for term in LIVELY:
            end = told_or_limit(read_form, term)
            history = some_history(rng, term, 40)
            now = end_of(term, history)
            if not steps_of(now):
                self.assertEqual(now, end)
                many += 1
        self.assertGreater(many, 200)

    def test_numbers(self):
        for term, number in zip(NUMBERS, (8, 9, 6, 9)):
            for end in self.ends(term):
                self.assertEqual(numeral_of(end), number)
            self.assertGreater(len(self.ends(term)), 2)

    def test_the_fewest_pieces(self):
        many = fewer = 0
        for term in lively_terms(195, 150, 12):
            row = told_or_limit(root_pieces, term)
            if isinstance(row, tuple):
                fewest = fewest_pieces(term, 4)
                self.assertEqual(fewest, len(row) if len(row) <= 4 else None)
                many += 1
                for other in piece_rows(term, 3):
                    made = end_of(term, row_history(term, other))
                    if not steps_of(made):
                        self.assertGreaterEqual(len(other), len(row))
                        self.assertEqual(made, end_of(term, row_history(term, row)))
                        fewer += len(other) > len(row)
        self.assertGreater(many, 100)
        self.assertGreater(fewer, 2)

    def test_histories_that_do_a_lot_of_names_end_in_one_term(self):
        rng = random.Random(196)
        many = 0
        for term in LIVELY[:150]:
            history = some_history(rng, term, 2)
            names = open_names(term, history)[:3]
            least = told_or_limit(names_done, term, history, names)
            if not isinstance(least, tuple):
                continue
            further = ()
            while True:
                now = end_of(term, history + further)
                places = [place for place in steps_of(now)
                          if is_history(term, history + further + (place,))
                          and step_name(term, history + further + (place,)) in names]
                if not places:
                    break
                further += (rng.choice(places),)
            if are_names_done(term, history, names, further):
                self.assertEqual(end_of(term, history + further), end_of(term, history + least))
                alike = told_or_limit(are_one_class, term, history + further, history + least)
                self.assertIn(alike, (True, 60, 400))
                many += 1
        self.assertGreater(many, 100)


class OnePiece(unittest.TestCase):

    def test_by_names_drawn_out_histories_and_walks_or_by_none(self):
        rng = random.Random(197)
        alike = unlike = 0
        for term in LIVELY + [TWICE, LOOP, CHAIN] * 10 + NUMBERS * 10:
            for _ in range(4):
                one, other = some_history(rng, term, 5), some_history(rng, term, 5)
                if not one or not other or one == other:
                    continue
                by_names = step_name(term, one) == step_name(term, other)
                walks = told_or_limit(walk_of_step, term, one), told_or_limit(walk_of_step, term, other)
                drawn = told_or_limit(drawn_out, term, one), told_or_limit(drawn_out, term, other)
                if 60 not in drawn and 400 not in drawn:
                    self.assertIs(drawn[0] == drawn[1], by_names)
                    self.assertIs(are_one_piece(term, one, other), by_names)
                if 2000 not in walks:
                    self.assertIs(walks[0] == walks[1], by_names)
                alike += by_names
                unlike += not by_names
        self.assertGreater(alike, 100)
        self.assertGreater(unlike, 300)

    def test_the_three_ways_lead_into_one_another(self):
        rng = random.Random(198)
        many = 0
        for term in LIVELY + NUMBERS * 10:
            history = some_history(rng, term, 6)
            name, walk = step_name(term, history), walk_of_step(term, history)
            drawn = told_or_limit(drawn_out, term, history)
            if len(walk) > 400 or not isinstance(drawn, tuple):
                continue
            self.assertEqual(walk_of_name(term, name), walk)
            self.assertEqual(name_of_walk(term, walk), name)
            self.assertEqual(history_of_walk(term, walk), drawn)
            if is_history(term, drawn):
                self.assertEqual(step_name(term, drawn), name)
                self.assertEqual(walk_of_step(term, drawn), walk)
                many += len(drawn) > 1
        self.assertGreater(many, 40)

    def test_each_balanced_walk_has_a_history_or_an_edge_where_it_sticks(self):
        told = stuck = 0
        for term in LIVELY + NUMBERS + [LOOP] + lively_terms(112, 1000, 17):
            for walk in balanced_walks(term, 16):
                history, index = history_of_walk(term, walk), sticking_index(term, walk)
                self.assertIs(history is None, index is not None)
                if history is None:
                    self.assertLess(index, len(walk))
                    stuck += 1
                else:
                    self.assertEqual(walk_of_step(term, history), walk)
                    told += 1
        self.assertGreater(told, 300)
        self.assertGreater(stuck, 1)


class NotTrue(unittest.TestCase):

    def test_equal_places_in_equal_terms_are_not_one_piece_of_work(self):
        # I (I (I a)): the first step or the second one is done.
        term = (0,) + I + (0,) + I + (0,) + I + (5,)
        one, other = Bench(term), Bench(term)
        one.do(0)
        other.do(3)
        self.assertEqual(one.term_now, other.term_now)
        self.assertNotEqual(one.name_here(0), other.name_here(0))
        self.assertIs(are_one_piece(term, (0, 0), (3, 0)), False)
        # The calls in (I I) (I I).
        term = (0, 0) + I + I + (0,) + I + I
        self.assertEqual(Bench(term).name_here(1), ((2,),))
        self.assertIs(are_one_piece(term, (1,), (6,)), False)

    def test_histories_with_one_end_are_not_of_one_class(self):
        # I (I a).
        term = (0, -1, 1, 0, -1, 1, 5)
        self.assertEqual(end_of(term, (0,)), end_of(term, (3,)))
        self.assertIs(are_one_class(term, (0,), (3,)), False)
        self.assertEqual(met_end(term, (0,), (3,)), (5,))
        self.assertNotEqual(standard_of(term, (0,)), standard_of(term, (3,)))

    def test_fewest_steps_and_fewest_pieces_do_not_come_by_one_order(self):
        found = 0
        for term in LIVELY + NUMBERS + [LEVELS[15:]]:
            row = told_or_limit(root_pieces, term)
            if not isinstance(row, tuple):
                continue
            bench = Bench(term)
            try:
                while bench:
                    bench.do(steps_of(bench.term_now)[-1])
            except TooMany:
                continue
            found += len(bench) < len(row_history(term, row))
        self.assertGreater(found, 5)

    def test_a_balanced_walk_behind_a_step_need_not_be_one_when_further_steps_are_done(self):
        # The step is done, or the argument that it stands in is dropped.
        term = (0, -1, 7, 0) + I + (8,)
        self.assertIs(is_balanced(term, (5,)), True)
        made = step_done(term, 0)
        self.assertIs(is_balanced(made, (5,)), False)

    def test_not_all_steps_of_a_piece_are_rests_of_one(self):
        term = (0, -1, 0, 1, 0, 1, 1, 0, -1, -1, 0, 2, 1, -1, 2)
        one, other = (7, 8), (0, 1, 2, 4, 5)
        self.assertEqual(step_name(term, one), step_name(term, other))
        self.assertEqual(walk_of_step(term, one), walk_of_step(term, other))
        self.assertEqual(history_behind(term, one[:-1], other[:-1]), (9,))


class Standing(unittest.TestCase):

    def test_no_call_changes_its_arguments_or_keeps_hold_of_them(self):
        term = tuple(list(TWICE))
        bench = Bench(term)
        order = (0, 0)
        bench.run(order)
        history, deeds, now = bench.history, bench.deeds, bench.term_now
        bench.undo()
        bench.do(5)
        self.assertEqual((history, deeds, now), ((0, 1), (("run", (0, 0)),), meanings.end(TWICE, (0, 1))))
        self.assertEqual((term, order), (TWICE, (0, 0)))

    def test_models_of_walks_and_of_steps_agree(self):
        for term in LIVELY[:60]:
            for place in steps_of(term):
                self.assertEqual(model.walk_of_step(term, (place,)), (place + 2,))
                self.assertEqual(root_history(term, 1), steps_of(term)[:1])
        self.assertEqual(write_rows(step_name(TWICE, (0, 1, 0))), "1/6/3,11,5,12,7,13,8")
        self.assertEqual(write_term((0,) + COPY + COPY), "(\\(1 1) \\(1 1))")


if __name__ == "__main__":
    unittest.main()
