"""Lots of names: doing all steps that have one of them, in whatever copies they turn up."""

from oncework.errors import InvalidName, TooMany
from oncework.ground.copying import steps_in
from oncework.ground.steps import MOST_STEPS, check_history, fits_step
from oncework.ground.terms import check_made, check_small_term, passed_limit
from oncework.labels.names import fits_passed_name, run_along, told_name

MAX_NAMES = 12


def check_names(term, names):
    """Refuse what is no ascending tuple of at most 12 names of the term."""
    if not isinstance(names, tuple) or len(names) > MAX_NAMES:
        raise InvalidName("not a tuple of at most 12 names")
    for k, name in enumerate(names):
        if not fits_passed_name(len(term), name) or (k > 0 and names[k - 1] >= name):
            raise InvalidName("not an ascending tuple of names of the term")


def wanted_numbers(book, names):
    """The numbers of the words that names of the first term tell, as keys."""
    letters = list(range(book.letters))
    return {book.number_of_name(name, book.letters, letters): True for name in names}


def first_wanted(run, wanted, start):
    """The least step from a place on that has a name of them, None if there is none."""
    for at in range(start, len(run.parts) - 1):
        if run.parts[at] == 0 and run.parts[at + 1] == -1 and run.words[at + 1] in wanted:
            return at
    return None


def do_wanted(run, wanted, ahead):
    """Does the steps that have a name of them, and returns their places.

    `ahead` tells how many steps stand ahead of these in the history.
    """
    places = []
    place = first_wanted(run, wanted, 0)
    while place is not None:
        if ahead + len(places) == MOST_STEPS:
            raise TooMany(MOST_STEPS)
        check_made(run.parts, run.do(place))
        places.append(place)
        # A step can make a new one to its left only of the call that holds it.
        place = first_wanted(run, wanted, max(0, place - 1))
    return tuple(places)


def step_numbers(run):
    """The numbers of the words of all steps of the term at which the run stands, as keys."""
    return {run.words[place + 1]: True for place in steps_in(run.parts)}


def open_names(term, history):
    """The names of all steps at the end of the history, ascending."""
    check_small_term(term)
    check_history(term, history)
    run = run_along(term, history)
    return tuple(sorted([told_name(run.book, number) for number in step_numbers(run)]))


def names_done(term, history, names):
    """The further steps that do all that has a name of them, the least place first."""
    check_small_term(term)
    check_history(term, history)
    check_names(term, names)
    run = run_along(term, history)
    return do_wanted(run, wanted_numbers(run.book, names), len(history))


def does_only(run, wanted, places):
    """Whether the places are steps with names of them, none of the terms being too large."""
    for place in places:
        if not fits_step(run.parts, place) or run.words[place + 1] not in wanted:
            return False
        run.do(place)
        if passed_limit(run.parts) is not None:
            return False
    return True


def are_names_done(term, history, names, value):
    """Whether the value does all that has a name of them behind the history, and no more."""
    check_small_term(term)
    check_history(term, history)
    check_names(term, names)
    if not isinstance(value, tuple) or len(history) + len(value) > MOST_STEPS:
        return False
    run = run_along(term, history)
    wanted = wanted_numbers(run.book, names)
    return does_only(run, wanted, value) and first_wanted(run, wanted, 0) is None


def finished_names(term, history):
    """The names of the steps that were done and that no step at the end has, ascending."""
    check_small_term(term)
    check_history(term, history)
    run = run_along(term, ())
    done = {}
    for place in history:
        done[run.words[place + 1]] = True
        run.do(place)
    names = [(told_name(run.book, number), number) for number in done]
    left = step_numbers(run)
    return tuple(sorted([name for name, number in names if number not in left]))
