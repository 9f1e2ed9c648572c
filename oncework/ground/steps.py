"""Steps, the copies that they make, histories, and lots."""

from oncework.errors import InvalidHistory, InvalidLot, InvalidPlace, TooMany
from oncework.ground.copying import do_step, origins_made, stands_step, steps_in, term_made
from oncework.ground.shapes import is_whole_within
from oncework.ground.terms import check_limits, check_made, check_place, check_term, passed_limit

MOST_STEPS = 60


def steps_of(term):
    """The places of all steps of a term, ascending."""
    check_term(term)
    return tuple(steps_in(term))


def is_step(term, value):
    """Whether the value is a step of the term."""
    check_term(term)
    return fits_step(term, value)


def fits_step(term, value):
    """As `is_step`, of a term that is known to be one."""
    return is_whole_within(value, 0, len(term) - 1) and stands_step(term, value)


def check_step(term, place):
    """Refuse what is no step of the term."""
    if not fits_step(term, place):
        raise InvalidPlace("not a step of the term")


def step_done(term, place):
    """The term that the step makes."""
    check_term(term)
    check_step(term, place)
    made = term_made(term, place)
    check_limits(made)
    return made


def origins(term, place):
    """For each part of what the step makes the place from which it comes."""
    check_term(term)
    check_step(term, place)
    return tuple(origins_made(term, place))


def rests_made(term, place, places):
    """The rests of several parts, all together, behind one step."""
    wanted = {at: True for at in places}
    return tuple([at for at, source in enumerate(origins_made(term, place)) if source in wanted])


def rests(term, place, other):
    """The places in what the step makes that come from the place `other`."""
    check_term(term)
    check_step(term, place)
    check_place(term, other)
    return rests_made(term, place, (other,))


def terms_along(term, value):
    """All terms that a history passes, ends included; None if it is none.

    The first term is not looked at, so it can have any size.
    """
    if not isinstance(value, tuple) or len(value) > MOST_STEPS:
        return None
    now = term
    terms = [now]
    for place in value:
        if not fits_step(now, place):
            return None
        now = term_made(now, place)
        if passed_limit(now) is not None:
            return None
        terms.append(now)
    return terms


def terms_of_history(term, history):
    """As `terms_along`, refusing what is no history of the term."""
    terms = terms_along(term, history)
    if terms is None:
        raise InvalidHistory("not a history of the term")
    return terms


def check_history(term, history):
    """Refuse what is no history of the term."""
    terms_of_history(term, history)


def is_history(term, value):
    """Whether the value is a history of the term."""
    check_term(term)
    return terms_along(term, value) is not None


def end_of(term, history):
    """The term that the history makes."""
    check_term(term)
    return terms_of_history(term, history)[-1]


def marks_of(parts, places):
    """A track that is True at the places, with one True more behind all parts."""
    marks = [False] * len(parts)
    for place in places:
        marks[place] = True
    # So the next marked place can always be found.
    marks.append(True)
    return marks


def rests_behind(term, history, place):
    """The places at the end of the history that come from the place."""
    check_term(term)
    check_history(term, history)
    check_place(term, place)
    parts = list(term)
    marks = marks_of(parts, (place,))
    for step in history:
        do_step(parts, (marks,), step)
    return tuple([at for at in range(len(parts)) if marks[at]])


def fits_lot(term, value):
    """Whether the value is an ascending tuple of steps of the term."""
    if not isinstance(value, tuple):
        return False
    last = -1
    for place in value:
        if not fits_step(term, place) or place <= last:
            return False
        last = place
    return True


def is_lot(term, value):
    """Whether the value is a lot of the term."""
    check_term(term)
    return fits_lot(term, value)


def check_lot(term, lot):
    """Refuse what is no lot of the term."""
    if not fits_lot(term, lot):
        raise InvalidLot("not a lot of the term")


def development(term, lot, ahead=0):
    """The history that does a lot, and its end; `ahead` tells how many steps were done before."""
    parts = list(term)
    marks = marks_of(parts, lot)
    places = []
    place = marks.index(True)
    while place < len(parts):
        if ahead + len(places) == MOST_STEPS:
            raise TooMany(MOST_STEPS)
        # Nothing to the left of the step can become a rest, and the step itself has none.
        check_made(parts, do_step(parts, (marks,), place))
        places.append(place)
        place = marks.index(True, place)
    return tuple(places), tuple(parts)


def lot_history(term, lot):
    """The history that does the lot, always the least rest first."""
    check_term(term)
    check_lot(term, lot)
    places, _ = development(term, lot)
    return places


def lot_done(term, lot):
    """The end of the history that does the lot."""
    check_term(term)
    check_lot(term, lot)
    _, end = development(term, lot)
    return end
