"""The machine that goes along a walk with two stacks, and so tells what the walk weighs."""

from oncework.errors import InvalidNumber, InvalidOperation
from oncework.ground.shapes import is_whole_within
from oncework.ground.terms import check_small_term
from oncework.paths.edges import PUT_ARGUMENT, PUT_CALL, PUT_VARIABLE, TAKE_ARGUMENT, TAKE_CALL, Ways
from oncework.paths.walks import moves_of_walk


class Entry:
    """What the log and the tape have: a variable and a row of entries, or something unknown."""

    def __init__(self, variable, row):
        self.variable = variable
        self.row = row
        self.told = None


class Machine:
    """The two stacks. A mark `call` on the tape is None, all other marks are entries."""

    def __init__(self, ways, level):
        self.ways = ways
        # All entries that were unknown when they were made, in this order.
        self.unknown = []
        self.log = self.new_entries(level)
        self.tape = []

    def new_entries(self, many):
        """So many unlike unknown entries."""
        entries = [Entry(None, []) for _ in range(many)]
        self.unknown.extend(entries)
        return entries

    def go(self, last, edge, move):
        """Changes the stacks as an integer behind the last one does, and tells whether it can."""
        if move == PUT_CALL:
            self.tape.append(None)
        elif move == PUT_VARIABLE:
            self.put_variable(last - 1)
        elif move == PUT_ARGUMENT:
            self.tape.append(self.log.pop(0))
        else:
            return len(self.tape) > 0 and self.take(self.tape.pop(), edge, move)
        return True

    def put_variable(self, variable):
        """Puts the entry on the tape that tells a variable, and where it stands."""
        size = self.ways.row_size(variable)
        self.tape.append(Entry(variable, self.log[:size]))
        self.log = self.log[size:]

    def take(self, top, edge, move):
        """Goes on with what was taken off the tape, and tells whether it is what is wanted."""
        if move == TAKE_CALL:
            return top is None
        if top is None:
            return False
        if move == TAKE_ARGUMENT:
            self.log = [top] + self.log
            return True
        return self.take_variable(top, -edge - 1)

    def take_variable(self, top, variable):
        """Goes on with an entry for a variable, and tells whether it is one of this variable."""
        if top.variable is None:
            top.variable = variable
            top.row = self.new_entries(self.ways.row_size(variable))
        self.log = top.row + self.log
        return top.variable == variable


def gone_along(ways, walk, moves):
    """The machine behind as many integers of a walk as moves are told.

    And the index of the integer at which it sticks, None if it comes so far.
    """
    machine = Machine(ways, ways.levels[walk[0] - 2])
    last = None
    for index, (edge, move) in enumerate(zip(walk, moves)):
        if not machine.go(last, edge, move):
            return machine, index
        last = edge
    return machine, None


def index_stuck(ways, walk, moves):
    """The index of the integer at which the machine sticks, None if it passes the walk."""
    _, index = gone_along(ways, walk, moves)
    return index


def sticking_index(term, walk):
    """The index of the integer at which the machine sticks, None if it passes the walk."""
    check_small_term(term)
    ways = Ways(term)
    return index_stuck(ways, walk, moves_of_walk(ways, walk))


def does_pass(term, walk):
    """Whether the machine sticks at no integer of the walk."""
    return sticking_index(term, walk) is None


def machine_behind(ways, walk, moves):
    """The machine behind as many integers as moves are told, refusing one that sticks."""
    machine, stuck = gone_along(ways, walk, moves)
    if stuck is not None:
        raise InvalidOperation("the machine sticks")
    return machine


def stack_sizes(term, walk, index):
    """How many marks the tape and how many entries the log has behind one of the integers."""
    check_small_term(term)
    ways = Ways(term)
    moves = moves_of_walk(ways, walk)
    if not is_whole_within(index, 0, len(walk) - 1):
        raise InvalidNumber(index)
    machine = machine_behind(ways, walk, moves[:index + 1])
    return len(machine.tape), len(machine.log)


def first_log(term, walk):
    """What the entries of the first log have become at the end of the walk."""
    check_small_term(term)
    ways = Ways(term)
    machine = machine_behind(ways, walk, moves_of_walk(ways, walk))
    # The row of an entry that has become known was made behind the entry itself.
    for entry in reversed(machine.unknown):
        if entry.variable is not None:
            entry.told = (entry.variable, tuple([inner.told for inner in entry.row]))
    return tuple([entry.told for entry in machine.unknown[:ways.levels[walk[0] - 2]]])
