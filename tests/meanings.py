"""Stages 3 to 9 as the document tells them, word by word, to compare with.

Nothing is fast here, and nothing has a bound but that `TooBig` ends what never would.
Steps are those of the tree model. A word is a tuple of letters, of pairs ("over", sign)
and of pairs ("under", sign), sign being the number of a word in the list `SIGNS`.
"""

import functools

import model


SIGNS = []
SIGN_NUMBERS = {}


class TooBig(Exception):
    """A term or a history is larger than what a test can go through."""


@functools.lru_cache(maxsize=50000)
def done(term, place):
    return model.done(term, place)


@functools.lru_cache(maxsize=50000)
def facts(term):
    return model.facts(term)


def step(term, place):
    made = done(term, place)[0]
    if len(made) > 3000:
        raise TooBig
    return made


def origins(term, place):
    return done(term, place)[1]


def whole(term, place):
    """All places of the part at the place."""
    return range(place, facts(term)[place][0])


def is_step(term, place):
    return 0 <= place < len(term) - 1 and term[place] == 0 and term[place + 1] == -1


def steps(term):
    return tuple([place for place in range(len(term)) if is_step(term, place)])


def rests(term, place, places):
    return tuple([at for at, source in enumerate(origins(term, place)) if source in places])


def end(term, history):
    for place in history:
        term = step(term, place)
    return term


def rests_along(term, history, places):
    for place in history:
        places = rests(term, place, places)
        term = step(term, place)
    return places


def lot_steps(term, lot):
    """The history of a lot."""
    places = []
    left = tuple(sorted(lot))
    while left:
        if len(places) > 300:
            raise TooBig
        places.append(left[0])
        left, term = rests(term, left[0], left), step(term, left[0])
    return tuple(places)


def limit_along(term, history):
    """The limit of the first error along a history [0.17], None if it has none."""
    for count, place in enumerate(history):
        if count == 60:
            return 60
        term = step(term, place)
        if len(term) > 400:
            return 400
        if max(term) > 1000:
            return 1000
    return None


# Stage 3.

def behind_lot(term, history, lot):
    """A history behind a lot [3.1]."""
    if not history:
        return ()
    first, rest = history[0], history[1:]
    places = lot_steps(term, lot)
    left = lot_steps(end(term, places), rests_along(term, places, (first,)))
    others = [place for place in lot if place != first]
    return left + behind_lot(step(term, first), rest, rests(term, first, others))


def row_behind(term, row, lot):
    """A row of lots behind a lot [3.2]."""
    made = []
    for member in row:
        member_steps = lot_steps(term, member)
        made.append(rests_along(term, lot_steps(term, lot), member))
        lot = rests_along(term, member_steps, lot)
        term = end(term, member_steps)
    return made


def row_steps(term, row):
    """The history that does a row of lots, one after the other."""
    history = ()
    for lot in row:
        places = lot_steps(term, lot)
        history += places
        term = end(term, places)
    return history


def behind_row(term, history, row):
    if not history:
        return ()
    first, rest = history[0], history[1:]
    places = row_steps(term, row)
    left = lot_steps(end(term, places), rests_along(term, places, (first,)))
    return left + behind_row(step(term, first), rest, row_behind(term, row, (first,)))


def behind(term, one, other):
    """One history behind another one [3.2]."""
    return behind_row(term, one, [(place,) for place in other])


def meeting(term, one, other):
    return end(term, other + behind(term, one, other))


def largest_meeting(term, one, other):
    """The greatest number of parts of all terms that [3.6] tells."""
    return max([len(meeting(term, one[:i], other[:j]))
                for i in range(len(one) + 1) for j in range(len(other) + 1)])


# Stage 4.

def fault(term, history):
    """The least fault [4.1]."""
    terms = [end(term, history[:count]) for count in range(len(history))]
    for j in range(len(history)):
        for i in range(j):
            for left in steps(terms[i]):
                if left < history[i] and history[j] in rests_along(terms[i], history[i:j], (left,)):
                    return i, j
    return None


def least_done(term, history):
    """The least step of the term of which some rest is done."""
    for place in steps(term):
        now, left = term, (place,)
        for done_place in history:
            if done_place in left:
                return place
            now, left = step(now, done_place), rests(now, done_place, left)
    return None


def standard(term, history):
    """The standard history of the class [4.2]."""
    made = ()
    while history:
        place = least_done(term, history)
        history = behind_lot(term, history, (place,))
        made += (place,)
        term = step(term, place)
        if len(history) > 300 or len(made) > 100:
            raise TooBig
    return made


# Stages 5 and 6.

def sign_of(word):
    """The number of a word in the list."""
    if word not in SIGN_NUMBERS:
        SIGN_NUMBERS[word] = len(SIGNS)
        SIGNS.append(word)
    return SIGN_NUMBERS[word]


def words_along(term, history):
    """The words of all parts of the end [5.1]."""
    words = [(letter,) for letter in range(len(term))]
    for place in history:
        words = words_behind(term, words, place)
        term = step(term, place)
    return words


def words_behind(term, words, place):
    function, call = sign_of(words[place + 1]), words[place]
    argument = facts(term)[place + 1][0]
    parameters = [at for at in range(len(term))
                  if term[at] > 0 and facts(term)[at][5] == place + 1]
    came = origins(term, place)
    made = [words[source] for source in came]
    copies = [at for at, source in enumerate(came) if source == argument]
    for at, parameter in zip(copies, parameters):
        made[at] = words[parameter] + (("under", function),) + made[at]
    made[place] = call + (("over", function),) + made[place]
    return made


def tell(letters, word):
    """The name of a word [5.2]."""
    told = []
    tell_inner(letters, word, told, {})
    return tuple(told)


def tell_inner(letters, word, told, at):
    row = []
    for sign in word:
        if isinstance(sign, tuple):
            if sign[1] not in at:
                tell_inner(letters, SIGNS[sign[1]], told, at)
            sign = letters + 2 * at[sign[1]] + (sign[0] == "under")
        row.append(sign)
    at[sign_of(word)] = len(told)
    told.append(tuple(row))


def read_name(letters, name):
    """The word that a name tells."""
    words = []
    for row in name:
        words.append(tuple([sign if sign < letters else
                            (("over", "under")[(sign - letters) % 2],
                             sign_of(words[(sign - letters) // 2]))
                            for sign in row]))
    return words[-1]


@functools.lru_cache(maxsize=None)
def height(word):
    return max([0] + [1 + height(SIGNS[sign[1]]) for sign in word if isinstance(sign, tuple)])


def led(word, words):
    """The word with the words of other parts in the place of its letters [5.5]."""
    made = ()
    for sign in word:
        if isinstance(sign, tuple):
            made += ((sign[0], sign_of(led(SIGNS[sign[1]], words))),)
        else:
            made += words[sign]
    return made


def part_names(term, history):
    return [tell(len(term), word) for word in words_along(term, history)]


def step_name(term, history):
    return part_names(term, history[:-1])[history[-1] + 1]


def step_names(term, history):
    """The names of the steps at the end, by their places."""
    names = part_names(term, history)
    return {place: names[place + 1] for place in steps(end(term, history))}


def lot_of_names(term, history, names):
    """The further steps that do a lot of names [6.2]."""
    further = ()
    while True:
        told = step_names(term, history + further)
        places = [place for place in told if told[place] in names]
        if not places:
            return further
        if len(history + further) > 70:
            raise TooBig
        further += (min(places),)


# Stage 7.

def had_without(term, place, history):
    """What is told for a history behind a step, without the step [7.1]."""
    for had in (had_as_rest, had_beside, had_in_copy, had_in_body):
        told = had(term, place, history)
        if told is not None:
            return told
    return None


def had_as_rest(term, place, history):
    for other in steps(term):
        if len(history) == 1 and other != place and history[0] in rests(term, place, (other,)):
            return (other,)
    return None


def had_beside(term, place, history):
    """The second case; the step at `place` goes along undone, so the made part stands there."""
    told = ()
    for at in history:
        if set(whole(step(term, place), place)) & set(whole(step(term, place), at)):
            return None
        same = origins(term, place)[at]
        told += (same,)
        (place,) = rests(term, same, (place,))
        term = step(term, same)
    return told


def had_in_copy(term, place, history):
    argument = facts(term)[place + 1][0]
    for copy in rests(term, place, (argument,)):
        now, told = step(term, place), ()
        for at in history:
            if at not in whole(now, copy):
                break
            told += (at - copy + argument,)
            now = step(now, at)
        else:
            return told
    return None


def had_in_body(term, place, history):
    now, told = term, ()
    body = set(whole(term, place + 2))
    made = step(term, place)
    came = origins(term, place)
    for at in history:
        if came[at] not in body or came[at + 1] not in body:
            return None
        told += (origins(now, place)[at],)
        now = step(now, told[-1])
        came = [came[source] for source in origins(made, at)]
        made = step(made, at)
        assert made == step(now, place)
    return told


def drawn_out(term, history):
    """The drawn out history [7.2]."""
    history = standard(term, history[:-1]) + history[-1:]
    if len(history) == 1:
        return history
    behind_first = drawn_out(step(term, history[0]), history[1:])
    told = had_without(term, history[0], behind_first)
    if told is not None:
        return drawn_out(term, told)
    return history[:1] + behind_first


def histories_to(term, most):
    """All histories with at most so many steps, without those with too large a term; ascending."""
    found = [()]
    for history in found:
        now = end(term, history)
        for place in steps(now) if len(history) < most else ():
            made = step(now, place)
            if len(made) <= 400 and max(made) <= 1000:
                found.append(history + (place,))
    return sorted(found)
