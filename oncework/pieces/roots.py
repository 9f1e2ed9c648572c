"""The root's order: always the step with the least place. Last forms, and needed steps."""

from oncework.errors import InvalidNumber, TooMany
from oncework.ground.copying import do_step, first_step, steps_in
from oncework.ground.shapes import is_whole_within
from oncework.ground.steps import check_step
from oncework.ground.terms import check_made, check_term, is_term

MOST_ROOT_STEPS = 60


def root_step(term):
    """The least place of a step, None if there is none."""
    check_term(term)
    return first_step(term, 0)


def is_last(value):
    """Whether the value is a term without a step."""
    return is_term(value) and first_step(value, 0) is None


def root_steps(term, most):
    """The first steps of the root's order, and the term that they make.

    Each step is a pair of its place and of the place in the first term from which it comes.
    """
    parts = list(term)
    sources = list(range(len(parts)))
    steps = []
    place = first_step(parts, 0)
    while place is not None and len(steps) < most:
        steps.append((place, sources[place]))
        check_made(parts, do_step(parts, (sources,), place))
        # A step can make a new one to its left only of the call that holds it.
        place = first_step(parts, max(0, place - 1))
    return steps, tuple(parts)


def root_history(term, most):
    """The first steps of the root's order, or all of them if there are fewer."""
    check_term(term)
    if not is_whole_within(most, 0, MOST_ROOT_STEPS):
        raise InvalidNumber(most)
    steps, _ = root_steps(term, most)
    return tuple([place for place, _ in steps])


def steps_to_last(term):
    """As `root_steps`, of the whole root's order, refusing one that goes on."""
    steps, end = root_steps(term, MOST_ROOT_STEPS)
    if len(steps) == MOST_ROOT_STEPS and first_step(end, 0) is not None:
        raise TooMany(MOST_ROOT_STEPS)
    return steps, end


def last_form(term):
    """The term in which the root's order ends."""
    check_term(term)
    _, end = steps_to_last(term)
    return end


def root_length(term):
    """How many steps the root's order does."""
    check_term(term)
    steps, _ = steps_to_last(term)
    return len(steps)


def is_needed(term, place):
    """Whether each history to the last form does a rest of the step."""
    return needless_history(term, place) is None


def needed_steps(term):
    """All steps of the term of which each history to the last form does a rest, ascending."""
    check_term(term)
    steps, _ = steps_to_last(term)
    done = {source: True for _, source in steps}
    return tuple([place for place in steps_in(term) if place in done])


def needless_history(term, place):
    """The root's order to the last form if it does no rest of the step, None if it does one."""
    check_term(term)
    check_step(term, place)
    steps, _ = steps_to_last(term)
    if place in [source for _, source in steps]:
        return None
    return tuple([at for at, _ in steps])
