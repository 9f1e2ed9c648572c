"""A shell: lines that each tell one call of a bench, and their answers."""

from oncework.bench.bench import Bench
from oncework.errors import InvalidNumber, InvalidOperation, NothingToUndo, TooMany, WorkError
from oncework.ground.steps import steps_of
from oncework.paths.walks import walk_of_name
from oncework.pieces.roots import last_form
from oncework.prose.numbers import row_told, tells_number, wrong_spot
from oncework.prose.texts import write_row, write_rows, write_term

MAX_LINE = 2000
MOST_LINES = 40


def answer_do(bench, place):
    """Does a step."""
    return f"steps {bench.do(place)}"


def answer_piece(bench, place):
    """Does the whole piece of a step."""
    return f"steps {bench.do_piece(place)}"


def answer_run(bench, order):
    """Does steps that an order tells."""
    return f"steps {bench.run(order)}"


def answer_undo(bench, many):
    """Takes so many deeds back."""
    return f"deeds {bench.undo(deeds=many)}"


def answer_term(bench):
    """The term now."""
    return write_term(bench.term_now)


def answer_first(bench):
    """The first term."""
    return write_term(bench.first_term)


def answer_steps(bench):
    """The steps of the term now."""
    return write_row(steps_of(bench.term_now))


def answer_history(bench):
    """The history."""
    return write_row(bench.history)


def answer_name(bench, place):
    """The name of a step."""
    return write_rows(bench.name_here(place))


def answer_met(bench):
    """How many pieces of work the steps of the history have."""
    return str(len(bench.pieces_met()))


def answer_short(bench, place):
    """The drawn out history that comes to a step."""
    return write_row(bench.shortest(place))


def answer_walk(bench, place):
    """The walk of a step."""
    return write_row(walk_of_name(bench.first_term, bench.name_here(place)))


def answer_last(bench):
    """The last form of the term now."""
    return write_term(last_form(bench.term_now))


# The words of lines: those that stand alone, those with a P or a K, and the one with an R.
ALONE = {
    "term": answer_term, "first": answer_first, "steps": answer_steps, "history": answer_history,
    "met": answer_met, "last": answer_last,
}
WITH_NUMBER = {
    "do": answer_do, "piece": answer_piece, "undo": answer_undo, "name": answer_name,
    "short": answer_short, "walk": answer_walk,
}
WITH_ROW = {"run": answer_run}


def pieces_of(line):
    """The longest parts of a line without blanks, each with the index at which it begins."""
    pieces = []
    start = 0
    for part in line.split(" "):
        if part != "":
            pieces.append((part, start))
        start += len(part) + 1
    return pieces


def can_follow(word, piece):
    """Whether the piece can stand behind the word."""
    if word in WITH_NUMBER:
        return tells_number(piece)
    return word in WITH_ROW and wrong_spot(piece) is None


def wrong_at(line, pieces):
    """The index at which a line goes wrong, None if it tells a call."""
    word, start = pieces[0]
    if word not in ALONE and word not in WITH_NUMBER and word not in WITH_ROW:
        return start
    wanted = 1 if word in ALONE else 2
    if len(pieces) < wanted:
        return len(line)
    for at, (piece, begin) in enumerate(pieces[1:]):
        if at + 1 >= wanted or not can_follow(word, piece):
            return begin
    return None


def call_told(bench, word, further):
    """The answer to the call that a word and the pieces behind it tell."""
    if word in ALONE:
        answer = ALONE[word]
        return answer(bench)
    if word in WITH_NUMBER:
        answer_number = WITH_NUMBER[word]
        return answer_number(bench, int(further[0]))
    answer_row = WITH_ROW[word]
    return answer_row(bench, row_told(further[0]))


def answer_line(bench, line):
    """Does what the line tells, and returns its answer."""
    pieces = pieces_of(line)
    if len(pieces) == 0:
        return ""
    wrong = wrong_at(line, pieces)
    if wrong is not None:
        return f"wrong at {wrong}"
    words = [piece for piece, _ in pieces]
    try:
        return call_told(bench, words[0], words[1:])
    except TooMany as e:
        return f"too many {e.limit}"
    except NothingToUndo:
        return "nothing to undo"
    except (WorkError, InvalidNumber):
        return "invalid"


def check_line(line):
    """Refuse what is no string of at most 2000 printable ASCII characters."""
    if not isinstance(line, str) or len(line) > MAX_LINE:
        raise InvalidOperation("not a string of at most 2000 characters")
    if any([sign < " " or sign > "~" for sign in line]):
        raise InvalidOperation("a character that is not printable ASCII")


class Shell:
    """A changing shell, which keeps the bench itself that it is given."""

    def __init__(self, bench):
        if not isinstance(bench, Bench):
            raise InvalidOperation("not a bench")
        self._bench = bench
        self._many = 0

    def say(self, line):
        """Does what the line tells, and returns its answer."""
        check_line(line)
        self._many += 1
        return answer_line(self._bench, line)

    def tell(self, lines):
        """The answers of lines, one after the other."""
        if not isinstance(lines, tuple) or len(lines) > MOST_LINES:
            raise InvalidOperation("not a tuple of at most 40 lines")
        for line in lines:
            check_line(line)
        return tuple([self.say(line) for line in lines])

    @property
    def said(self):
        """How many lines were said."""
        return self._many

    def __str__(self):
        return f"shell, {self._many} lines said"
