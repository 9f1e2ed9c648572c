"""One history behind another one, and classes of histories.

Two histories `one` and `other` span a table. Behind the first i steps of `one` and the
first j steps of `other` stands the term in which these meet. From there a lot leads
down, to the next row: the rests of the step i of `one`; and a lot leads across, to the
next column: the rests of the step j of `other`.
"""

from oncework.errors import TooMany
from oncework.ground.copying import do_step
from oncework.ground.steps import check_history, check_lot, check_step, development, marks_of
from oncework.ground.steps import rests_made, terms_of_history
from oncework.ground.terms import MAX_PARTS, MAX_VARIABLE, check_term


def lot_behind(term, lot, place):
    """The rests of the other members of a lot behind a step."""
    check_term(term)
    check_lot(term, lot)
    check_step(term, place)
    return rests_made(term, place, lot)


def lot_and_rests(term, lot, places):
    """The end of a lot, and the rests of several places at it.

    The terms on the way can have any size, the end cannot.
    """
    if len(lot) == 0:
        return term, places
    parts = list(term)
    marks = marks_of(parts, lot)
    track = marks_of(parts, places)
    place = marks.index(True)
    while place < len(parts):
        # What stands to the left of the step stays, so the end is longer than that.
        if place >= MAX_PARTS:
            raise TooMany(MAX_PARTS)
        do_step(parts, (marks, track), place)
        place = marks.index(True, place)
    if len(parts) > MAX_PARTS:
        raise TooMany(MAX_PARTS)
    return tuple(parts), tuple([at for at in range(len(parts)) if track[at]])


def lots_down(terms, across, lot):
    """The lots that lead down from the terms of a row, the first one being told."""
    down = [lot]
    for term, step in zip(terms, across):
        if lot == step:
            lot = ()
        elif len(lot) > 0:
            lot = lot_and_rests(term, step, lot)[1]
        down.append(lot)
    return down


def row_below(terms, across, down):
    """The terms of the next row, and the lots that lead along it."""
    below = []
    across_below = []
    # The last column has no lot that leads on.
    for term, lot, step in zip(terms, down, across + [()]):
        made, left = lot_and_rests(term, lot, step)
        below.append(made)
        across_below.append(left)
    return below, across_below[:-1]


def last_column(term, one, other):
    """The terms of the last column, the lots down from them, and the lots of the last row."""
    check_term(term)
    check_history(term, one)
    terms = terms_of_history(term, other)
    across = [(place,) for place in other]
    meeting = [terms[-1]]
    lots = []
    for place in one:
        down = lots_down(terms, across, (place,))
        terms, across = row_below(terms, across, down)
        meeting.append(terms[-1])
        lots.append(down[-1])
    return meeting, lots, across


def history_behind(term, one, other):
    """What is left of `one` behind `other`, as a history of the end of `other`."""
    meeting, lots, _ = last_column(term, one, other)
    places = ()
    for now, lot in zip(meeting, lots):
        places += development(now, lot, len(places))[0]
    return places


def met_end(term, one, other):
    """The term in which the two histories meet."""
    end = last_column(term, one, other)[0][-1]
    if max(end) > MAX_VARIABLE:
        raise TooMany(MAX_VARIABLE)
    return end


def are_one_class(term, one, other):
    """Whether nothing is left of either history behind the other one."""
    _, lots, across = last_column(term, one, other)
    return not any([len(lot) > 0 for lot in lots + across])


def left_step(term, one, other):
    """The first step of `one` that is left behind `other`, and its least rest; None if none is."""
    lots = last_column(term, one, other)[1]
    for index, lot in enumerate(lots):
        if len(lot) > 0:
            return index, lot[0]
    return None
