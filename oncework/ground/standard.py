"""Standard histories: of each class of histories the one whose steps go from the left."""

from oncework.errors import InvalidNumber, TooMany
from oncework.ground.copying import call_made, do_step, from_runs, stands_step, steps_in
from oncework.ground.shapes import is_whole_within
from oncework.ground.steps import MOST_STEPS, check_history
from oncework.ground.terms import check_made, check_small_term, passed_limit

MOST_GENERATED = 4


def mark_faults(parts, faults, place, number):
    """Marks the steps to the left of a step: from now on they are at fault with it.

    A step that is at fault already keeps its mark, the least number.
    """
    for at in range(place):
        if faults[at] is None and stands_step(parts, at):
            faults[at] = number


def fault_along(term, history):
    """As `first_fault`, of what is known to be a history."""
    parts = list(term)
    faults = [None] * len(parts)
    for number, place in enumerate(history):
        if faults[place] is not None:
            return faults[place], number
        mark_faults(parts, faults, place, number)
        do_step(parts, (faults,), place)
    return None


def first_fault(term, history):
    """The first step at fault and the first one with which it is: (this one, that one)."""
    check_small_term(term)
    check_history(term, history)
    return fault_along(term, history)


def is_standard(term, history):
    """Whether no step of the history is at fault with another one."""
    return first_fault(term, history) is None


def do_weighed(parts, weights, place):
    """Does a step in the list of parts, and returns the integers that it makes.

    The weight of a part counts the steps that were done in its stead. The ends of two
    histories have equal weights exactly if these are of one class, as weights add up
    as words do (stage 5), and the first place at which they are unlike is the least
    one at which a step is still to be done.
    """
    end, made, runs, copies = call_made(parts, place)
    told = from_runs(weights, runs)
    for at, parameter in copies:
        told[at] += weights[parameter]
    told[0] += weights[place] + 1
    parts[place:end] = made
    weights[place:end] = told
    return made


def weights_behind(term, history):
    """The weights of all parts of the end of a history."""
    parts = list(term)
    weights = [0] * len(parts)
    for place in history:
        do_weighed(parts, weights, place)
    return weights


def steps_to(term, wanted):
    """The standard history of the class whose end has these weights."""
    parts = list(term)
    weights = [0] * len(parts)
    places = []
    at = 0
    while True:
        while at < len(weights) and weights[at] == wanted[at]:
            at += 1
        if at == len(weights):
            return tuple(places)
        place = at
        # A call that is no step as yet becomes one by steps of its function part.
        while not stands_step(parts, place):
            place += 1
        if len(places) == MOST_STEPS:
            raise TooMany(MOST_STEPS)
        check_made(parts, do_weighed(parts, weights, place))
        places.append(place)


def standard_of(term, history):
    """The standard history of the class of the history."""
    check_small_term(term)
    check_history(term, history)
    return steps_to(term, weights_behind(term, history))


def next_histories(state):
    """What a standard history goes on with: states, the one with the greatest place first.

    A state is a history, its end, and a track of which steps are at fault there.
    """
    history, term, faults = state
    found = []
    for place in reversed(steps_in(term)):
        if faults[place] is None:
            parts = list(term)
            track = list(faults)
            mark_faults(parts, track, place, len(history))
            do_step(parts, (track,), place)
            if passed_limit(parts) is None:
                found.append((history + (place,), tuple(parts), track))
    return found


def standard_histories(term, most):
    """Generates all standard histories with at most so many steps, ascending."""
    check_small_term(term)
    if not is_whole_within(most, 0, MOST_GENERATED):
        raise InvalidNumber(most)
    waiting = [((), term, [None] * len(term))]
    while len(waiting) > 0:
        state = waiting.pop()
        yield state[0]
        if len(state[0]) < most:
            waiting.extend(next_histories(state))
