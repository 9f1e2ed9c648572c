"""Walks behind steps: to what walks of the first term they are led, and from what they come."""

from oncework.errors import InvalidHistory, InvalidWalk, TooMany
from oncework.ground.copying import call_made, from_runs, stands_step, term_made
from oncework.ground.shapes import end_behind
from oncework.ground.steps import MOST_STEPS, check_step, terms_of_history
from oncework.ground.terms import check_made, check_small_term
from oncework.paths.edges import Ways, turned
from oncework.paths.walks import ends_balanced, moves_along, moves_of_walk
from oncework.paths.weights import index_stuck

MAX_LED = 2000


def sources_behind(parts, end, runs, place):
    """The place from which each part of what a step makes comes."""
    sources = list(range(len(parts)))
    return sources[:place] + from_runs(sources, runs) + sources[end:]


def rows_of_step(term, place):
    """For each part of what the step makes the edges to which the edge above it is led."""
    end, _, runs, copies = call_made(term, place)
    rows = [(source + 1,) for source in sources_behind(term, end, runs, place)]
    for start, parameter in copies:
        rows[place + start] = (parameter + 1, -(place + 2)) + rows[place + start]
    rows[place] = (place + 1, place + 2) + rows[place]
    return rows


def led_by_step(term, place, walk):
    """The walk of the term to which a walk behind the step is led."""
    rows = rows_of_step(term, place)
    led = []
    for edge in walk:
        led.extend(rows[edge - 1] if edge > 0 else turned(rows[-edge - 1]))
    if len(led) > MAX_LED:
        raise TooMany(MAX_LED)
    return tuple(led)


def led_by_steps(terms, history, walk):
    """The walk of the first one of the terms along a history to which a walk is led."""
    for term, place in reversed(list(zip(terms, history))):
        walk = led_by_step(term, place, walk)
    return walk


def led_walk(term, place, walk):
    """The walk of the term to which a walk of what the step makes is led."""
    check_small_term(term)
    check_step(term, place)
    moves_of_walk(Ways(term_made(term, place)), walk)
    return led_by_step(term, place, walk)


def led_along(term, history, walk):
    """The walk of the term to which a walk of the end of the history is led."""
    check_small_term(term)
    terms = terms_of_history(term, history)
    moves_of_walk(Ways(terms[-1]), walk)
    return led_by_steps(terms, history, walk)


def walk_of_step(term, history):
    """The walk of the last step of the history."""
    check_small_term(term)
    terms = terms_of_history(term, history)
    if len(history) == 0:
        raise InvalidHistory("a history without steps")
    return led_by_steps(terms, history[:-1], (history[-1] + 2,))


def steps_used(parts, walk):
    """The steps whose functions have an edge in the walk, ascending."""
    return sorted({abs(edge) - 2 for edge in walk if stands_step(parts, abs(edge) - 2)})


def used_steps(term, walk):
    """The steps of the term to or from whose functions the walk goes, ascending."""
    check_small_term(term)
    moves_of_walk(Ways(term), walk)
    return tuple(steps_used(term, walk))


def first_shift(shifts, argument, walk):
    """How far the copy in which a walk begins stands behind the argument.

    A walk that begins in no copy may be told anything, as it comes to one by its edge.
    """
    for index, edge in enumerate(walk):
        if edge == -(argument + 1):
            return shifts[-walk[index + 2] - 1]
    return 0


def walk_behind(parts, place, walk):
    """The walk behind the step that is led to this one, what the step makes, and all parts then.

    The walk is one that passes, and the step the least one that it uses; so the walk
    comes to the argument, and leaves it, by a parameter alone, and never by a variable
    whose function stands around the step.
    """
    end, made, runs, copies = call_made(parts, place)
    argument = end_behind(parts, place + 1)
    sources = sources_behind(parts, end, runs, place)
    rests = {source: at for at, source in enumerate(sources)}
    shifts = {parameter: place + start - argument for start, parameter in copies}
    shift = first_shift(shifts, argument, walk)
    found = []
    for index, edge in enumerate(walk):
        at = abs(edge) - 1
        if edge == argument + 1:
            shift = shifts[walk[index - 2] - 1]
        if argument <= at < end:
            found.append(edge + shift if edge > 0 else edge - shift)
        elif at in rests:
            found.append(rests[at] + 1 if edge > 0 else -(rests[at] + 1))
        # The others are the call, its function and its parameters, which are no more.
    return tuple(found), made, parts[:place] + made + parts[end:]


def steps_of_walk(parts, walk):
    """The history with this balanced walk, which passes, that does no step without need."""
    places = []
    while len(walk) > 1:
        if len(places) == MOST_STEPS:
            raise TooMany(MOST_STEPS)
        place = steps_used(parts, walk)[0]
        walk, made, parts = walk_behind(parts, place, walk)
        check_made(parts, made)
        places.append(place)
    if len(places) == MOST_STEPS:
        raise TooMany(MOST_STEPS)
    return tuple(places) + (walk[0] - 2,)


def history_of_walk(term, walk):
    """The drawn out history whose last step has this balanced walk, None if the walk sticks."""
    check_small_term(term)
    ways = Ways(term)
    moves = moves_along(ways, walk)
    if moves is None or not ends_balanced(ways, walk, moves):
        raise InvalidWalk("not a balanced walk of the term")
    if index_stuck(ways, walk, moves) is not None:
        return None
    return steps_of_walk(list(term), walk)
