"""Whole pieces of work: all steps with one name done together, and rows of such pieces."""

from oncework.errors import InvalidName, InvalidNumber, InvalidOperation, InvalidTerm, TooMany
from oncework.ground.copying import first_step
from oncework.ground.shapes import is_whole_within
from oncework.ground.steps import check_history
from oncework.ground.terms import check_small_term, is_term
from oncework.labels.lots import do_wanted, first_wanted, step_numbers, wanted_numbers
from oncework.labels.names import check_name, run_along, told_name

MAX_FEW_PARTS = 12
MAX_FEW = 4
MOST_NAMES = 60


def do_named_piece(run, name, ahead):
    """Does the whole piece with the name, and returns the places; `ahead` steps stand before.

    Refuses a name that no step has.
    """
    wanted = wanted_numbers(run.book, (name,))
    if first_wanted(run, wanted, 0) is None:
        raise InvalidOperation("no step has the name")
    return do_wanted(run, wanted, ahead)


def piece_history(term, history, name):
    """The further steps of the whole piece with the name behind the history."""
    check_small_term(term)
    check_history(term, history)
    check_name(len(term), name)
    return do_named_piece(run_along(term, history), name, len(history))


def next_of_piece(run, numbers):
    """The least step that has the last one of these words, None if there is none."""
    if len(numbers) == 0:
        return None
    return first_wanted(run, {numbers[-1]: True}, 0)


def row_of(term, history):
    """The names of the whole pieces that the history does, None if it does not do such pieces."""
    check_small_term(term)
    check_history(term, history)
    run = run_along(term, ())
    numbers = []
    names = {}
    is_row = True
    for place in history:
        number = run.words[place + 1]
        if number not in names:
            names[number] = told_name(run.book, number)
        if next_of_piece(run, numbers) is None:
            numbers.append(number)
        is_row = is_row and next_of_piece(run, numbers) == place
        run.do(place)
    if not is_row or next_of_piece(run, numbers) is not None:
        return None
    return tuple([names[number] for number in numbers])


def check_row(term, row):
    """Refuse what is no tuple of at most 60 names of the term."""
    if not isinstance(row, tuple) or len(row) > MOST_NAMES:
        raise InvalidName("not a tuple of at most 60 names")
    for name in row:
        check_name(len(term), name)


def row_history(term, row):
    """The history that does the whole pieces of a row, one after the other."""
    check_small_term(term)
    check_row(term, row)
    run = run_along(term, ())
    places = ()
    for name in row:
        places += do_named_piece(run, name, len(places))
    return places


def root_pieces(term):
    """The row whose next whole piece is always that of the least step, to the last form."""
    check_small_term(term)
    run = run_along(term, ())
    row = []
    many = 0
    place = first_step(run.parts, 0)
    while place is not None:
        number = run.words[place + 1]
        row.append(told_name(run.book, number))
        many += len(do_wanted(run, {number: True}, many))
        place = first_step(run.parts, 0)
    return tuple(row)


def piece_done(run, number, ahead):
    """The run behind the whole piece with a word, and how many steps then stand; None if too many."""
    further = run.twin()
    try:
        places = do_wanted(further, {number: True}, ahead)
    except TooMany:
        return None
    return further, ahead + len(places)


def next_rows(state):
    """The states behind one whole piece more, the one with the greatest name first.

    A state is a row, the run behind it, and how many steps were done.
    """
    row, run, many = state
    named = [(run.book.name_of(number), number) for number in step_numbers(run)]
    found = []
    for name, number in sorted([pair for pair in named if pair[0] is not None], reverse=True):
        further = piece_done(run, number, many)
        if further is not None:
            found.append((row + (name,),) + further)
    return found


def rows_met(term, most):
    """All rows of at most so many whole pieces, in order, each with the term that it makes."""
    if not is_term(term) or len(term) > MAX_FEW_PARTS:
        raise InvalidTerm("no term with at most 12 parts and variables up to 1000")
    if not is_whole_within(most, 0, MAX_FEW):
        raise InvalidNumber(most)
    met = []
    waiting = [((), run_along(term, ()), 0)]
    while len(waiting) > 0:
        state = waiting.pop()
        met.append((state[0], state[1].parts))
        if len(state[0]) < most:
            waiting.extend(next_rows(state))
    return met


def piece_rows(term, most):
    """All rows of at most so many whole pieces, each one ahead of those that begin with it."""
    return tuple([row for row, _ in rows_met(term, most)])


def fewest_pieces(term, most):
    """The least number of names in a row that ends in a last form, None if there is none."""
    found = [len(row) for row, parts in rows_met(term, most) if first_step(parts, 0) is None]
    return min(found, default=None)
