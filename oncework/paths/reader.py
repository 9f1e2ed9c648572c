"""The reader of last forms: the machine, begun above the root, that does no step."""

from oncework.errors import InvalidNumber, InvalidOperation, TooMany
from oncework.ground.shapes import is_whole
from oncework.ground.terms import MAX_PARTS, MAX_VARIABLE, check_small_term
from oncework.paths.edges import Ways

MAX_GONE = 4000
MAX_ASKED = 12


class Reader:
    """The machine as it stands when it has read the front of a part, or as it goes on.

    The edge above the root is told by 1 down and by -1 up. An entry is a pair of the
    place of its variable and of its row; a mark is a pair of None and of how many
    parameters were counted before it was put. A mark `call` on the tape is None.
    """

    def __init__(self, ways):
        self.ways = ways
        self.edge = 1
        self.log = ()
        self.tape = []
        self.gone = 1
        self.counted = 0
        self.before = 0

    def twin(self):
        """A reader that stands at the same edge and goes on by itself."""
        reader = Reader(self.ways)
        reader.edge = self.edge
        reader.log = self.log
        reader.tape = list(self.tape)
        reader.gone = self.gone
        reader.counted = self.counted
        reader.before = self.before
        return reader

    def go_on(self):
        """Goes on until it has gone up above the root, or down to an open variable."""
        while self.gone <= MAX_GONE:
            edge = self.down_from(self.edge - 1) if self.edge > 0 else self.up_from(-self.edge - 1)
            if edge is None:
                return
            self.edge = edge
            self.gone += 1
        raise TooMany(MAX_GONE)

    def down_from(self, place):
        """The edge behind the one that goes down to the part, None at the end."""
        part = self.ways.term[place]
        if part == 0:
            self.tape.append(None)
            return place + 2
        if part > 0:
            return self.above_function(place)
        if len(self.tape) == 0:
            self.counted += 1
            return place + 2
        top = self.tape.pop()
        if top is None:
            return place + 2
        variable, row = top
        self.log = row + self.log
        return -(variable + 1)

    def above_function(self, variable):
        """The edge above the function of a variable, None if this is open."""
        function = self.ways.functions.get(variable)
        if function is None:
            return None
        size = self.ways.row_size(variable)
        self.tape.append((variable, self.log[:size]))
        self.log = self.log[size:]
        return -(function + 1)

    def up_from(self, place):
        """The edge behind the one that goes up from the part, None at the end."""
        holder, kind = self.ways.slots[place]
        if holder is None:
            return None
        if kind == "body":
            self.tape.append(None)
            return -(holder + 1)
        if kind == "argument":
            self.tape.append(self.log[0])
            self.log = self.log[1:]
            return holder + 2
        top = self.tape.pop()
        if top is None:
            return -(holder + 1)
        self.log = (top,) + self.log
        return self.ways.arguments[holder] + 1

    def entry_told(self):
        """The index on the tape of the entry that tells the variable, None if this is open.

        And the index behind the calls above it that count, and how many parameters do.
        """
        entries = [at for at, item in enumerate(self.tape) if item is not None]
        marks = [at for at in entries if self.tape[at][0] is None]
        if len(entries) == 0:
            return None, len(self.tape), self.counted
        if len(marks) == 0:
            return entries[-1], len(self.tape), self.counted
        lowest = marks[0]
        return entries[entries.index(lowest) - 1], lowest, self.counted - self.tape[lowest][1]

    def front(self):
        """The front of the part that was read last."""
        at, end, many = self.entry_told()
        functions = self.counted - self.before
        if at is None:
            return functions, many + self.ways.opened[self.edge - 1], end
        return functions, many - (end - at - 1), at

    def turn(self, index):
        """Turns round to go on to the argument with this index."""
        at, _, _ = self.entry_told()
        kept = [] if at is None else self.tape[at:]
        self.tape = [(None, self.counted)] + [None] * index + kept
        self.before = self.counted
        self.edge = -self.edge
        self.gone += 1


def reader_behind(reader, index):
    """A reader that has gone on to the argument with this index, and read its front."""
    further = reader.twin()
    further.turn(index)
    further.go_on()
    return further


def first_reader(term):
    """A reader that has read the front of the head form."""
    reader = Reader(Ways(term))
    reader.go_on()
    return reader


def read_front(term):
    """The front of the head form of a term."""
    check_small_term(term)
    return first_reader(term).front()


def check_path(path):
    """Refuse what is no tuple of at most 12 integers from 0 on."""
    if not isinstance(path, tuple) or len(path) > MAX_ASKED:
        raise InvalidOperation("not a tuple of at most 12 indexes")
    for index in path:
        if not is_whole(index) or index < 0:
            raise InvalidOperation("not a tuple of integers from 0 on")


def reader_at(term, path):
    """A reader that has read the front of the part that a path tells."""
    check_small_term(term)
    check_path(path)
    reader = first_reader(term)
    for index in path:
        if index >= reader.front()[2]:
            raise InvalidNumber(index)
        reader = reader_behind(reader, index)
    return reader


def read_at(term, path):
    """The front of the part of the last form that a path tells."""
    return reader_at(term, path).front()


def edges_gone(term, path):
    """How many edges the reader goes along to read the part that a path tells."""
    return reader_at(term, path).gone


def read_form(term):
    """The last form, put together of the fronts of all of its parts."""
    check_small_term(term)
    form = []
    # The arguments that are still to be read: of which part, its path's length, which index.
    waiting = []
    reader = first_reader(term)
    length = 0
    while True:
        functions, variable, calls = reader.front()
        if len(form) + functions + calls + 1 > MAX_PARTS:
            raise TooMany(MAX_PARTS)
        form.extend([-1] * functions + [0] * calls + [variable])
        waiting.extend([(reader, length, index) for index in range(calls - 1, -1, -1)])
        if len(waiting) == 0:
            break
        held, length, index = waiting.pop()
        if length == MAX_ASKED:
            raise TooMany(MAX_ASKED)
        reader = reader_behind(held, index)
        length += 1
    if max(form) > MAX_VARIABLE:
        raise TooMany(MAX_VARIABLE)
    return tuple(form)
