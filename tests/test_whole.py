"""Stage 9: whole pieces of work, and rows of them."""

import random
import unittest

import meanings
from oncework.errors import (InvalidHistory, InvalidName, InvalidNumber, InvalidOperation,
                             InvalidTerm, TooMany)
from oncework.ground.steps import end_of, steps_of
from oncework.labels.lots import names_done, open_names
from oncework.labels.names import step_name
from oncework.pieces import whole as module
from oncework.pieces.roots import last_form, root_length
from oncework.pieces.whole import (fewest_pieces, piece_history, piece_rows, root_pieces,
                                   row_history, row_of)
from samples import (CHAIN, COPY, FORTY, FORTY_ONE, I, LOOP, RAISES_TOO_HIGH, SIXTY_BY_PIECES,
                     TWICE, WRONG_ROWS, lively_terms, some_history)

ONE, SIX = ((1,),), ((6,),)
THIRD = ((1,), (6,), (3, 11, 5, 12, 7, 13, 8))

# The lot of the name of the step at 0 makes steps of that name in steps of that name.
LATE = (0, -1, 0, 1, 0, 1, 7, -1, 0) + I + (1,)


def piece(term, history, name):
    """A whole piece by hand, None if it passes a limit."""
    try:
        further = meanings.lot_of_names(term, history, (name,))
    except meanings.TooBig:
        return None
    return further if meanings.limit_along(term, history + further) is None else None


def rows(term, most, row=(), history=()):
    """All rows by hand, with their histories."""
    found = [(row, history)]
    if len(row) < most:
        for name in sorted(set(meanings.step_names(term, history).values())):
            further = piece(term, history, name)
            if further is not None and sum(map(len, name)) <= 2000:
                found += rows(term, most, row + (name,), history + further)
    return found


def row_by_hand(term, history):
    """The row that a history does, None if it is none."""
    row = ()
    at = 0
    while at < len(history):
        name = meanings.step_name(term, history[:at + 1])
        further = meanings.lot_of_names(term, history[:at], (name,))
        if history[at:at + len(further)] != further:
            return None
        row += (name,)
        at += len(further)
    return row


def copied_calls(copies, calls):
    """A step that makes so many copies of so many calls, each of which becomes its argument."""
    return (0, -1) + (0,) * (copies - 1) + (1,) * copies + (0, -1, 1) * calls + (7,)


class Checks(unittest.TestCase):

    def refused(self, limit, function, *given):
        with self.assertRaises(TooMany, msg=function.__name__) as caught:
            function(*given)
        self.assertEqual(caught.exception.limit, limit)


class Pieces(Checks):

    def test_constants(self):
        self.assertEqual((module.MAX_FEW_PARTS, module.MAX_FEW), (12, 4))

    def test_a_whole_piece_is_all_steps_with_its_name(self):
        self.assertEqual(piece_history(TWICE, (), ONE), (0,))
        self.assertEqual(piece_history(TWICE, (0,), SIX), (1, 3))
        self.assertEqual(piece_history(TWICE, (), SIX), (5,))
        self.assertEqual(piece_history(TWICE, (0, 1), SIX), (3,))
        self.assertEqual(piece_history(TWICE, (0, 1), THIRD), (0,))

    def test_steps_of_a_piece_within_steps_of_it(self):
        history = (0,)
        name = ((9,),)
        self.assertEqual(steps_of(end_of(LATE, history)), (0, 2, 6, 8))
        further = piece_history(LATE, history, name)
        self.assertEqual(further, meanings.lot_of_names(LATE, history, (name,)))
        self.assertGreater(len(further), 1)
        outer = step_name(LATE, (0, 0))
        self.assertEqual(piece_history(LATE, history, outer),
                         meanings.lot_of_names(LATE, history, (outer,)))

    def test_many_pieces(self):
        rng = random.Random(101)
        copies = 0
        for start in lively_terms(101, 400, 26):
            term = start if rng.random() < 0.5 else (0,) + COPY + start
            history = some_history(rng, term, 3)
            for name in sorted(set(meanings.step_names(term, history).values())):
                further = piece(term, history, name)
                if further is not None:
                    self.assertEqual(piece_history(term, history, name), further)
                    self.assertEqual(names_done(term, history, (name,)), further)
                    copies += len(further) > 1
        self.assertGreater(copies, 40)

    def test_a_name_that_no_step_has(self):
        for name in [((0,),), THIRD, ((1,), (1, 10, 1))]:
            with self.assertRaises(InvalidOperation):
                piece_history(TWICE, (), name)
        with self.assertRaises(InvalidOperation):
            piece_history(TWICE, (0,), ONE)
        with self.assertRaises(InvalidOperation):
            piece_history((1,), (), ((0,),))

    def test_errors_along_the_piece(self):
        self.refused(1000, piece_history, RAISES_TOO_HIGH, (), ONE)
        term = (0, 0, 1) + LOOP + (0,) + I + (7,)
        self.assertEqual(piece_history(term, (3,) * 59, ((13,),)), (12,))
        self.refused(60, piece_history, term, (3,) * 60, ((13,),))
        with self.assertRaises(InvalidOperation):
            piece_history(term, (3,) * 60, ((14,),))
        grows = (0, -1) + (0,) * 7 + (1,) * 8
        term = grows + grows + (-1,) * 5 + (1,)
        history = (0,)
        name = ((18,),)
        self.refused(400, piece_history, term, history, name)

    def test_the_order_of_the_errors(self):
        with self.assertRaises(InvalidTerm):
            piece_history(FORTY_ONE, (1,), ())
        with self.assertRaises(InvalidHistory):
            piece_history(TWICE, (1,), ())
        with self.assertRaises(InvalidName):
            piece_history(TWICE, (), ((10,),))
        with self.assertRaises(InvalidName):
            piece_history(RAISES_TOO_HIGH, (), ((1,), (1,)))


class RowOf(Checks):

    def test_by_hand(self):
        self.assertEqual(row_of(TWICE, ()), ())
        self.assertEqual(row_of(TWICE, (0,)), (ONE,))
        self.assertEqual(row_of(TWICE, (0, 1, 3)), (ONE, SIX))
        self.assertEqual(row_of(TWICE, (0, 1, 3, 0)), (ONE, SIX, THIRD))
        self.assertEqual(row_of(TWICE, (5, 0, 0)), (SIX, ONE, THIRD))

    def test_a_history_that_is_cut_within_a_piece(self):
        self.assertIsNone(row_of(TWICE, (0, 1)))
        self.assertIsNone(row_of(TWICE, (0, 1, 0)))

    def test_a_piece_in_another_order(self):
        self.assertIsNone(row_of(TWICE, (0, 6)))
        self.assertIsNone(row_of(TWICE, (0, 6, 1)))

    def test_many_histories_as_the_document_tells_them(self):
        rng = random.Random(102)
        kinds = {}
        for start in lively_terms(102, 600, 26):
            term = start if rng.random() < 0.5 else (0,) + COPY + start
            history = some_history(rng, term, 5)
            try:
                wanted = row_by_hand(term, history)
            except meanings.TooBig:
                continue
            self.assertEqual(row_of(term, history), wanted, (term, history))
            kind = None if wanted is None else min(3, len(wanted))
            kinds[kind] = kinds.get(kind, 0) + 1
            if wanted is not None:
                self.assertEqual(row_history(term, wanted), history)
        self.assertEqual(len(kinds), 5 - (0 not in kinds))
        self.assertGreater(min(kinds.values()), 20)

    def test_a_name_that_is_too_long(self):
        counts = [count for count in range(1, 61)
                  if sum(map(len, meanings.step_name(LOOP, (0,) * count))) <= 2000]
        longest = counts[-1]
        self.assertEqual(len(row_of(LOOP, (0,) * longest)), longest)
        self.refused(2000, row_of, LOOP, (0,) * (longest + 1))
        # It comes ahead of the answer that there is no row: the two calls are one piece.
        term = (0, 0) + COPY + (0,) + I + (7,) + LOOP
        self.assertIsNone(row_of(term, (1, 2)))
        now = end_of(term, (1, 2))
        self.assertEqual(now, (0, 0, 7, 0) + I + (7,) + LOOP)
        self.assertIsNone(row_of(term, (1, 2) + (7,) * longest))
        self.refused(2000, row_of, term, (1, 2) + (7,) * (longest + 1))


class RowHistory(Checks):

    def test_rows_and_histories(self):
        self.assertEqual(row_history(TWICE, ()), ())
        self.assertEqual(row_history(TWICE, (ONE, SIX, THIRD)), (0, 1, 3, 0))
        self.assertEqual(row_history(TWICE, (SIX, ONE)), (5, 0))
        for term in lively_terms(103, 120, 12):
            for row, history in rows(term, 3):
                self.assertEqual(row_history(term, row), history)
                self.assertEqual(row_of(term, history), row)

    def test_a_name_whose_turn_has_not_come_or_is_over(self):
        for row in [(THIRD,), (ONE, ONE), (ONE, SIX, ONE), (ONE, SIX, THIRD, SIX), (((0,),),)]:
            with self.assertRaises(InvalidOperation):
                row_history(TWICE, row)

    def test_sixty_names_and_sixty_one(self):
        both = (0, 0, 1) + (0,) + I + (1,) + (0,) + I + (7,)
        row = (((4,),), ((8,),))
        self.assertEqual(row_history(both, row), (3, 4))
        with self.assertRaises(InvalidOperation):
            row_history(both, row + (((8,),),) * 58)
        for many in (61, 62):
            with self.assertRaises(InvalidName):
                row_history(both, (((8,),),) * many)

    def test_whichever_comes_first_along_the_row(self):
        grows = (0, -1) + (0,) * 7 + (1,) * 8
        term = grows + grows + (-1,) * 5 + (1,)
        first, second = ((1,),), ((18,),)
        self.assertEqual(len(row_history(term, (first,))), 1)
        self.refused(400, row_history, term, (first, second))
        self.refused(400, row_history, term, (first, second, first))
        with self.assertRaises(InvalidOperation):
            row_history(term, (first, first, second))
        with self.assertRaises(InvalidOperation):
            row_history(term, (((0,),), first, second))
        self.refused(1000, row_history, RAISES_TOO_HIGH, (ONE, ONE))

    def test_more_than_sixty_steps_of_several_pieces(self):
        for copies, calls, many in [(11, 5, 56), (10, 6, None)]:
            term = copied_calls(copies, calls)
            self.assertLessEqual(len(term), 40)
            names = tuple([((place + 1,),) for place in steps_of(term)])
            self.assertEqual(len(names), calls + 1)
            self.assertEqual(len(row_history(term, names[:-1])), 1 + copies * (calls - 1))
            if many is not None:
                self.assertEqual(len(row_history(term, names)), many)
            else:
                self.refused(60, row_history, term, names)
                self.refused(60, root_pieces, term)
                with self.assertRaises(InvalidOperation):
                    row_history(term, names[:-1] + (names[0], names[-1]))

    def test_wrong_rows(self):
        for row in WRONG_ROWS:
            with self.assertRaises(InvalidName, msg=repr(row)[:80]):
                row_history(TWICE, row)
            with self.assertRaises(InvalidTerm):
                row_history(FORTY_ONE, row)
        self.assertEqual(row_history(FORTY, (ONE,)), (0,))


class Root(Checks):

    def test_by_hand(self):
        self.assertEqual(root_pieces(TWICE), (ONE, SIX, THIRD))
        self.assertEqual(root_pieces((1,)), ())
        self.assertEqual(root_pieces(CHAIN), (((1,),), ((4,),)))

    def test_always_the_least_step_and_no_name_twice(self):
        ended = 0
        for term in lively_terms(104, 300, 30):
            try:
                row = root_pieces(term)
            except TooMany:
                continue
            ended += 1
            self.assertEqual(len(set(row)), len(row))
            history = ()
            for name in row:
                told = meanings.step_names(term, history)
                self.assertEqual(name, told[min(told)])
                history += meanings.lot_of_names(term, history, (name,))
            self.assertEqual(row_history(term, row), history)
            self.assertEqual(steps_of(end_of(term, history)), ())
            try:
                self.assertEqual(end_of(term, history), last_form(term))
            except TooMany:
                continue
        self.assertGreater(ended, 250)

    def test_plain_steps_can_be_more_or_fewer_than_pieces(self):
        self.assertEqual((len(root_pieces(TWICE)), root_length(TWICE)), (3, 4))
        self.assertEqual(len(row_history(TWICE, root_pieces(TWICE))), 4)

    def test_sixty_steps_and_sixty_one(self):
        row = root_pieces(SIXTY_BY_PIECES)
        self.assertEqual((len(row), len(row_history(SIXTY_BY_PIECES, row))), (9, 60))
        self.refused(60, root_pieces, (0, -1, 1) + SIXTY_BY_PIECES)

    def test_errors_along_the_row(self):
        self.refused(2000, root_pieces, LOOP)
        self.refused(1000, root_pieces, RAISES_TOO_HIGH)
        grows = (0, -1) + (0,) * 7 + (1,) * 8
        self.refused(400, root_pieces, grows + grows + (-1,) * 5 + (1,))
        self.refused(60, root_pieces, copied_calls(10, 6))
        self.assertEqual(len(root_pieces(copied_calls(11, 5))), 6)
        self.refused(1000, root_pieces, (0, 0, 1) + RAISES_TOO_HIGH + LOOP)
        self.refused(2000, root_pieces, (0, 0, 1) + LOOP + RAISES_TOO_HIGH)
        with self.assertRaises(InvalidTerm):
            root_pieces(FORTY_ONE)


class Few(Checks):

    def test_all_rows_in_their_order(self):
        many = 0
        for term in lively_terms(105, 200, 12) + [TWICE, CHAIN, LOOP, (1,), I, RAISES_TOO_HIGH]:
            found = rows(term, 4)
            for most in range(5):
                wanted = [row for row, _ in found if len(row) <= most]
                self.assertEqual(piece_rows(term, most), tuple(wanted))
                ends = [len(row) for row, history in found
                        if len(row) <= most and not meanings.steps(meanings.end(term, history))]
                self.assertEqual(fewest_pieces(term, most), min(ends) if ends else None)
            many += len(found) > 6
        self.assertGreater(many, 20)

    def test_by_hand(self):
        self.assertEqual(piece_rows(TWICE, 0), ((),))
        self.assertEqual(piece_rows(TWICE, 2), ((), (ONE,), (ONE, SIX), (SIX,), (SIX, ONE)))
        self.assertEqual([fewest_pieces(TWICE, most) for most in range(5)],
                         [None, None, None, 3, 3])
        self.assertEqual([fewest_pieces((1,), most) for most in (0, 4)], [0, 0])
        self.assertIsNone(fewest_pieces(LOOP, 4))

    def test_a_row_that_is_not_let_is_left_out(self):
        self.assertEqual(piece_rows(RAISES_TOO_HIGH, 4), ((),))
        self.assertIsNone(fewest_pieces(RAISES_TOO_HIGH, 4))
        self.assertEqual(piece_rows((0, -1, 7) + RAISES_TOO_HIGH, 4), ((), (ONE,)))
        self.assertEqual(fewest_pieces((0, -1, 7) + RAISES_TOO_HIGH, 4), 1)

    def test_the_row_from_the_root_has_as_few_names_as_any(self):
        compared = 0
        for term in lively_terms(106, 400, 12):
            try:
                row = root_pieces(term)
            except TooMany:
                continue
            few = fewest_pieces(term, 4)
            self.assertEqual(few, len(row) if len(row) <= 4 else None)
            compared += few is not None and few > 1
        self.assertGreater(compared, 60)

    def test_all_rows_that_end_in_a_last_form_end_in_one_term(self):
        for term in lively_terms(107, 150, 12):
            ends = set()
            for row in piece_rows(term, 4):
                end = end_of(term, row_history(term, row))
                if not steps_of(end):
                    ends.add(end)
            self.assertLessEqual(len(ends), 1)
            for end in ends:
                self.assertEqual(last_form(term), end)

    def test_rows_that_end_in_a_last_form_can_have_unlike_names(self):
        # The argument can be done, or be dropped.
        term = (0, -1, 5) + (0,) + I + (1,)
        found = piece_rows(term, 4)
        self.assertEqual(found, ((), (ONE,), (((4,),),), (((4,),), ONE)))
        self.assertEqual(fewest_pieces(term, 4), 1)
        self.assertEqual(open_names(term, ()), (ONE, ((4,),)))

    def test_twelve_parts_and_thirteen(self):
        twelve = (0,) + I + (-1,) * 8 + (1,)
        thirteen = (0,) + I + (-1,) * 9 + (1,)
        self.assertEqual([len(twelve), len(thirteen)], [12, 13])
        self.assertEqual(piece_rows(twelve, 4), ((), (ONE,)))
        self.assertEqual(fewest_pieces(twelve, 4), 1)
        for function in (piece_rows, fewest_pieces):
            for most in (4, 5):
                with self.assertRaises(InvalidTerm):
                    function(thirteen, most)

    def test_errors(self):
        for function in (piece_rows, fewest_pieces):
            for most in [-1, 5, None, True, False, "1", (1,), [1], 10 ** 60]:
                with self.assertRaises(InvalidNumber) as caught:
                    function(TWICE, most)
                self.assertIs(caught.exception.given, most)


if __name__ == "__main__":
    unittest.main()
