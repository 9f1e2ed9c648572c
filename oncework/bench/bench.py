"""A bench: a first term, and deeds that do steps in it and can be taken back."""

from oncework.errors import InvalidNumber, InvalidOperation, NothingToUndo, TooMany
from oncework.ground.behind import history_behind
from oncework.ground.copying import do_step, first_step, steps_in
from oncework.ground.shapes import is_whole
from oncework.ground.standard import steps_to, weights_behind
from oncework.ground.steps import check_step, fits_step
from oncework.ground.terms import check_made, check_small_term
from oncework.labels.lots import do_wanted
from oncework.labels.names import run_along, told_name
from oncework.pieces.drawn import drawn_from

MOST_STEPS = 60
MOST_DEEDS = 40
MOST_ORDER = 60


def check_order(order):
    """Refuse what is no tuple of 1 to 60 integers from 0 on."""
    if not isinstance(order, tuple) or not 1 <= len(order) <= MOST_ORDER:
        raise InvalidOperation("not a tuple of 1 to 60 integers")
    for index in order:
        if not is_whole(index) or index < 0:
            raise InvalidOperation("not a tuple of integers from 0 on")


def do_next(run, place, ahead):
    """Does a step behind so many steps, refusing the 61st one and too large a term."""
    if ahead == MOST_STEPS:
        raise TooMany(MOST_STEPS)
    check_made(run.parts, run.do(place))


def order_along(parts, places):
    """For each place of a history its index among all steps there."""
    now = list(parts)
    indexes = []
    for place in places:
        indexes.append(steps_in(now).index(place))
        do_step(now, (), place)
    return tuple(indexes)


class Stand:
    """How a bench stands behind a deed: the term now, the history, the words of its steps.

    The term is the one at which the run `now` stands, which goes on in a twin alone.
    """

    def __init__(self, now, places, numbers):
        self.now = now
        self.places = places
        self.numbers = numbers


class Bench:
    """A changing bench over a first term."""

    def __init__(self, term):
        check_small_term(term)
        self._first = term
        self._done = []
        self._stands = [Stand(run_along(term, ()), (), ())]

    def _begin(self):
        """A run that a deed can go on with, refusing a 41st deed."""
        if len(self._done) == MOST_DEEDS:
            raise TooMany(MOST_DEEDS)
        return self._stands[-1].now.twin()

    def _keep(self, deed, run, places, numbers):
        """Keeps a deed that a run has done, and returns how many steps the history has."""
        stand = self._stands[-1]
        self._done.append(deed)
        self._stands.append(Stand(run, stand.places + tuple(places), stand.numbers + tuple(numbers)))
        return len(self)

    def do(self, place):
        """Does the step."""
        check_step(self._stands[-1].now.parts, place)
        run = self._begin()
        number = run.words[place + 1]
        do_next(run, place, len(self))
        return self._keep(("do", place), run, [place], [number])

    def do_piece(self, place):
        """Does the whole piece of the step."""
        check_step(self._stands[-1].now.parts, place)
        run = self._begin()
        number = run.words[place + 1]
        # A word that is too long is no name, so no step has it.
        told_name(run.book, number)
        places = do_wanted(run, {number: True}, len(self))
        return self._keep(("piece", place), run, places, [number] * len(places))

    def run(self, order):
        """Does a step for each integer of the order, as long as there is one."""
        check_order(order)
        if first_step(self._stands[-1].now.parts, 0) is None:
            raise InvalidOperation("the term now has no step")
        run = self._begin()
        places = []
        numbers = []
        for index in order:
            steps = steps_in(run.parts)
            if len(steps) == 0:
                break
            place = steps[index % len(steps)]
            numbers.append(run.words[place + 1])
            do_next(run, place, len(self) + len(places))
            places.append(place)
        return self._keep(("run", order[:len(places)]), run, places, numbers)

    def undo(self, *, deeds=1):
        """Takes the last deeds back, and returns how many stand."""
        if not is_whole(deeds) or deeds < 1:
            raise InvalidNumber(deeds)
        left = len(self._done) - deeds
        if left < 0:
            raise NothingToUndo(deeds)
        self._done = self._done[:left]
        self._stands = self._stands[:left + 1]
        return left

    def twin(self):
        """An equal bench that changes by itself."""
        bench = Bench(self._first)
        bench._done = list(self._done)
        bench._stands = list(self._stands)
        return bench

    def joined(self, other):
        """A further bench that does behind this one's deeds what is left of the other one's."""
        if not isinstance(other, Bench) or other.first_term != self._first:
            raise InvalidOperation("not a bench with an equal first term")
        places = history_behind(self._first, other.history, self.history)
        bench = self.twin()
        if len(places) > 0:
            bench.run(order_along(self._stands[-1].now.parts, places))
        return bench

    def name_here(self, place):
        """The name of a step of the term now."""
        run = self._stands[-1].now
        check_step(run.parts, place)
        return told_name(run.book, run.words[place + 1])

    def pieces_met(self):
        """The names of all steps of the history, each once, as they are first met."""
        stand = self._stands[-1]
        unlike = {number: True for number in stand.numbers}
        return tuple([told_name(stand.now.book, number) for number in unlike])

    def shortest(self, place):
        """The drawn out history of the history and then the step."""
        check_step(self._stands[-1].now.parts, place)
        standard = steps_to(self._first, weights_behind(self._first, self.history))
        return drawn_from(self._first, standard, place)

    @property
    def first_term(self):
        """The first term."""
        return self._first

    @property
    def term_now(self):
        """The term behind all steps of the history."""
        return tuple(self._stands[-1].now.parts)

    @property
    def history(self):
        """The places of the steps of all deeds that stand."""
        return self._stands[-1].places

    @property
    def deeds(self):
        """All deeds that stand, each as its word and what it was given."""
        return tuple(self._done)

    def __contains__(self, value):
        """Whether the value is a step of the term now."""
        return fits_step(self._stands[-1].now.parts, value)

    def __len__(self):
        """How many steps the history has."""
        return len(self._stands[-1].places)

    def __bool__(self):
        """Whether the term now has a step."""
        return first_step(self._stands[-1].now.parts, 0) is not None

    def __eq__(self, other):
        """Whether the other one is a bench with an equal first term and equal deeds."""
        return isinstance(other, Bench) and self._first == other._first and self._done == other._done

    def __str__(self):
        return f"bench of {len(self.term_now)} parts, {len(self.history)} steps done"
