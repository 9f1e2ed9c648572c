"""Drawn out histories: what is left of a history if all is left out that its aim does not need."""

from oncework.errors import InvalidNumber, InvalidOperation, TooMany
from oncework.ground.copying import call_made, do_step, from_runs, stands_step, steps_in
from oncework.ground.copying import term_made
from oncework.ground.shapes import end_behind, is_whole_within
from oncework.ground.standard import steps_to, weights_behind
from oncework.ground.steps import check_history, check_step
from oncework.ground.terms import MAX_PARTS, MAX_VARIABLE, check_small_term
from oncework.labels.names import MAX_WORDS
from oncework.labels.words import Book, Run

MOST_TO = 4
MOST_HISTORIES = 500

# What a part of the made part comes from: the first part of a copy of the argument,
# another part of a copy, or the body.
FROM_FIRST = 0
FROM_COPY = 1
FROM_BODY = 2


def check_aimed(term, history):
    """Refuse what is no history of the term, and the one without an aim."""
    check_history(term, history)
    if len(history) == 0:
        raise InvalidOperation("a history without steps")


def had_beside(parts, start, end, shift, history):
    """What is told for steps beside the made part, which has these bounds; None if one is not.

    What is behind the made part stands by `shift` farther to the right as long as the
    step that made it is not done.
    """
    told = []
    for place in history:
        behind = end_behind(parts, place)
        if place < end and behind > start:
            return None
        told.append(place if place < start else place + shift)
        many = len(parts)
        do_step(parts, (), place)
        if place < start:
            start += len(parts) - many
            end += len(parts) - many
    return tuple(told)


def had_within_copy(parts, start, end, shift, history):
    """What is told for steps that all stand in one copy of the argument, None if one does not."""
    told = []
    for place in history:
        if not start <= place < end:
            return None
        told.append(place + shift)
        many = len(parts)
        do_step(parts, (), place)
        end += len(parts) - many
    return tuple(told)


def sources_of(made, copies, size):
    """What the integers that a step made come from, a copy having so many parts."""
    sources = [FROM_BODY] * made
    for start, _ in copies:
        sources[start:start + size] = [FROM_FIRST] + [FROM_COPY] * (size - 1)
    return sources


def had_within_body(parts, start, sources, history):
    """What is told for steps of the body, None if one has a call or a function from elsewhere.

    As long as the step at the place `start` is not done, a parameter stands for each
    copy, and its call and its function stand ahead of the body.
    """
    track = [FROM_COPY] * start + sources + [FROM_COPY] * (len(parts) - start - len(sources))
    told = []
    for place in history:
        if track[place] != FROM_BODY or track[place + 1] != FROM_BODY:
            return None
        copied = track[start:place].count(FROM_COPY)
        told.append(place + 2 - copied)
        do_step(parts, (track,), place)
    return tuple(told)


def had_as_rest(term, place, made, runs, shift, aim):
    """The step of the term of which one step behind another one is a rest, None if it is new."""
    if aim < place:
        source = aim
    elif aim < place + made:
        source = from_runs(list(range(len(term))), runs)[aim - place]
    else:
        source = aim + shift
    return (source,) if stands_step(term, source) else None


def told_without(term, place, history):
    """As `had_without`, of terms of any size and of what is known to be a history.

    Which case can apply is seen by the first step: only a single step can be had in
    two ways, and then both tell the same.
    """
    end, made, runs, copies = call_made(term, place)
    behind = place + len(made)
    first = history[0]
    if len(history) == 1:
        return had_as_rest(term, place, len(made), runs, end - behind, first)
    parts = list(term)
    parts[place:end] = made
    if first < place or first >= behind:
        return had_beside(parts, place, behind, end - behind, history)
    copied = end_behind(term, place + 1)
    size = end - copied
    for start, _ in copies:
        begin = place + start
        if begin <= first < begin + size:
            return had_within_copy(parts, begin, begin + size, copied - begin, history)
    return had_within_body(parts, place, sources_of(len(made), copies, size), history)


def had_without(term, place, history):
    """The history that does what `history` does behind a step, without the step; None if none."""
    check_small_term(term)
    check_step(term, place)
    check_aimed(term_made(term, place), history)
    return told_without(term, place, history)


def drawn_from(term, standard, aim):
    """What is left of a standard history and an aim behind it, if they are drawn out."""
    terms = [term]
    for place in standard:
        terms.append(term_made(terms[-1], place))
    drawn = (aim,)
    # What is told without a step is drawn out already, as the history behind it was.
    for now, place in reversed(list(zip(terms, standard))):
        told = told_without(now, place, drawn)
        drawn = (place,) + drawn if told is None else told
    return drawn


def drawn_out(term, history):
    """The history with the same aim that does nothing that the aim does not need."""
    check_small_term(term)
    check_aimed(term, history)
    standard = steps_to(term, weights_behind(term, history[:-1]))
    return drawn_from(term, standard, history[-1])


def is_drawn_out(term, history):
    """Whether the history is its own drawn out history."""
    return drawn_out(term, history) == history


def are_one_piece(term, one, other):
    """Whether the aims of the two histories are one piece of work."""
    return drawn_out(term, one) == drawn_out(term, other)


def is_let(parts, place):
    """Whether the step makes a term that a history may pass."""
    end, made = call_made(parts, place)[:2]
    return len(parts) - (end - place) + len(made) <= MAX_PARTS and max(made) <= MAX_VARIABLE


def next_runs(history, run, places):
    """The histories that go on with one of the places, and their runs, the greatest place first."""
    found = []
    for place in reversed(places):
        further = run.twin()
        further.do(place)
        found.append((history + (place,), further))
    return found


def aims_met(term, most):
    """All histories that go on within `most` steps, ascending, each one with its aims.

    An aim is a further step that makes a longer history; it is told with its word.
    """
    met = []
    many = 0
    waiting = [((), Run(Book(len(term), MAX_WORDS), term))]
    while len(waiting) > 0:
        history, run = waiting.pop()
        places = [place for place in steps_in(run.parts) if is_let(run.parts, place)]
        many += len(places)
        if many > MOST_HISTORIES:
            raise TooMany(MOST_HISTORIES)
        met.append((history, [(place, run.words[place + 1]) for place in places]))
        if len(history) + 1 < most:
            waiting.extend(next_runs(history, run, places))
    return met


def pieces_to(term, most):
    """The drawn out histories of all pieces of work that so many steps meet, ascending."""
    check_small_term(term)
    if not is_whole_within(most, 1, MOST_TO):
        raise InvalidNumber(most)
    drawn = {}
    for history, aims in aims_met(term, most):
        if len(aims) > 0:
            standard = steps_to(term, weights_behind(term, history))
            for aim, word in aims:
                # Steps with one word are one piece of work, so one of them is enough.
                if word not in drawn:
                    drawn[word] = drawn_from(term, standard, aim)
    return tuple(sorted(list(drawn.values())))
