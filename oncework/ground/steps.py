"""Steps, the copies that they make, histories, and lots."""

from oncework.errors import InvalidHistory, InvalidLot, InvalidPlace, TooMany
from oncework.ground.shapes import depths_in, end_behind, is_whole_within, raised_parts
from oncework.ground.terms import check_limits, check_place, check_term, passed_limit

MOST_STEPS = 60


def stands_step(term, place):
    """Whether a part of the term is a call whose function part is a function."""
    return term[place] == 0 and term[place + 1] == -1


def steps_of(term):
    """The places of all steps of a term, ascending."""
    check_term(term)
    return tuple([place for place in range(len(term)) if stands_step(term, place)])


def is_step(term, value):
    """Whether the value is a step of the term."""
    check_term(term)
    return fits_step(term, value)


def fits_step(term, value):
    """As `is_step`, of a term that is known to be one."""
    return is_whole_within(value, 0, len(term) - 1) and stands_step(term, value)


def check_step(term, place):
    """Refuse what is no step of the term."""
    if not fits_step(term, place):
        raise InvalidPlace("not a step of the term")


def body_made(body, start, argument, copied):
    """What the body becomes: pairs of an integer and of its place in the term.

    The body begins at the place `start`, the argument at the place `copied`.
    """
    made = []
    for at, (part, around) in enumerate(zip(body, depths_in(body))):
        if part == around + 1:
            # The copy gets below functions that its open variables skip.
            raised = raised_parts(argument, around)
            made.extend([(inner, copied + k) for k, inner in enumerate(raised)])
        elif part > around + 1:
            # The function of the step was one of those that it skips.
            made.append((part - 1, start + at))
        else:
            made.append((part, start + at))
    return made


def parts_made(term, place):
    """The integer and the origin of each part of what the step makes."""
    start = place + 2
    copied = end_behind(term, start)
    end = end_behind(term, copied)
    ahead = [(term[k], k) for k in range(place)]
    inside = body_made(term[start:copied], start, term[copied:end], copied)
    behind = [(term[k], k) for k in range(end, len(term))]
    return ahead + inside + behind


def term_made(term, place):
    """The term that the step makes, of any size."""
    return tuple([part for part, _ in parts_made(term, place)])


def origins_made(term, place):
    """The origin of each part of what the step makes."""
    return tuple([origin for _, origin in parts_made(term, place)])


def step_done(term, place):
    """The term that the step makes."""
    check_term(term)
    check_step(term, place)
    made = term_made(term, place)
    check_limits(made)
    return made


def origins(term, place):
    """For each part of what the step makes the place from which it comes."""
    check_term(term)
    check_step(term, place)
    return origins_made(term, place)


def rests_made(term, place, places):
    """The rests of several parts, all together, behind one step."""
    wanted = {k: True for k in places}
    sources = origins_made(term, place)
    return tuple([at for at, source in enumerate(sources) if source in wanted])


def rests(term, place, other):
    """The places in what the step makes that come from the place `other`."""
    check_term(term)
    check_step(term, place)
    check_place(term, other)
    return rests_made(term, place, (other,))


def terms_along(term, value):
    """All terms that a history passes, ends included; None if it is none."""
    if not isinstance(value, tuple) or len(value) > MOST_STEPS:
        return None
    terms = [term]
    for place in value:
        if not fits_step(terms[-1], place):
            return None
        made = term_made(terms[-1], place)
        if passed_limit(made) is not None:
            return None
        terms.append(made)
    return terms


def terms_of_history(term, history):
    """As `terms_along`, refusing what is no history of the term."""
    terms = terms_along(term, history)
    if terms is None:
        raise InvalidHistory("not a history of the term")
    return terms


def is_history(term, value):
    """Whether the value is a history of the term."""
    check_term(term)
    return terms_along(term, value) is not None


def end_of(term, history):
    """The term that the history makes."""
    check_term(term)
    return terms_of_history(term, history)[-1]


def rests_behind(term, history, place):
    """The places at the end of the history that come from the place."""
    check_term(term)
    terms = terms_of_history(term, history)
    check_place(term, place)
    places = (place,)
    for before, step in zip(terms, history):
        places = rests_made(before, step, places)
    return places


def fits_lot(term, value):
    """Whether the value is an ascending tuple of steps of the term."""
    if not isinstance(value, tuple):
        return False
    last = -1
    for place in value:
        if not fits_step(term, place) or place <= last:
            return False
        last = place
    return True


def is_lot(term, value):
    """Whether the value is a lot of the term."""
    check_term(term)
    return fits_lot(term, value)


def check_lot(term, lot):
    """Refuse what is no lot of the term."""
    if not fits_lot(term, lot):
        raise InvalidLot("not a lot of the term")


def development(term, lot):
    """The history that does a lot, and its end."""
    places = []
    now = term
    left = lot
    while len(left) > 0:
        if len(places) == MOST_STEPS:
            raise TooMany(MOST_STEPS)
        place = left[0]
        made = term_made(now, place)
        check_limits(made)
        # The step that is done has no rests, so it drops out by itself.
        left = rests_made(now, place, left)
        places.append(place)
        now = made
    return tuple(places), now


def lot_history(term, lot):
    """The history that does the lot, always the least rest first."""
    check_term(term)
    check_lot(term, lot)
    places, _ = development(term, lot)
    return places


def lot_done(term, lot):
    """The end of the history that does the lot."""
    check_term(term)
    check_lot(term, lot)
    _, end = development(term, lot)
    return end
