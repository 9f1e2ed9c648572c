"""The edges of a term, and the ways to go on along them.

Nothing is checked here: callers pass terms of any size, as tuples or lists. The edge of
the part k is told by k + 1 if it is gone down, and by -(k + 1) if it is gone up.
"""

from oncework.ground.shapes import slots_of

# What an edge does: it puts something on the marks of a walk, and on the tape of the
# machine, or, where it is less than 0, takes off what the opposite one puts there.
PUT_CALL = 1
TAKE_CALL = -1
# Up above a function from its variable; up from a variable of a function.
PUT_VARIABLE = 2
TAKE_VARIABLE = -2
# Up to a call from its argument and down to its function part; the other way round.
PUT_ARGUMENT = 3
TAKE_ARGUMENT = -3


def turned(row):
    """The edges of a row as they are gone backwards."""
    return tuple([-edge for edge in reversed(row)])


class Ways:
    """All that walks have to know of a term, by the places of its parts.

    `slots` has each part's holder and how it is held, `levels` how many arguments it
    stands in, `arguments` the argument of each call, `functions` the function of each
    variable that is not open, `variables` those of each function that has some, and
    `opened` the number of each open variable.
    """

    def __init__(self, term):
        self.term = term
        self.slots = slots_of(term)
        self.levels = []
        self.arguments = {}
        self.functions = {}
        self.variables = {}
        self.opened = {}
        self.beginnings = {}
        self.known = {}
        around = []
        for place, (holder, kind) in enumerate(self.slots):
            outer = () if holder is None else around[holder]
            around.append((holder,) + outer if kind == "body" else outer)
            self.set_slot(place, holder, kind)
            if term[place] > 0:
                self.set_variable(place, around[place])

    def set_slot(self, place, holder, kind):
        """Tells what follows from how a part is held."""
        level = 0 if holder is None else self.levels[holder]
        if kind == "argument":
            level += 1
            self.arguments[holder] = place
        elif kind == "function":
            self.beginnings[place + 1] = PUT_CALL
        self.levels.append(level)

    def set_variable(self, place, around):
        """Tells to what a variable refers, the functions around it being told from inside."""
        number = self.term[place]
        if number > len(around):
            self.opened[place] = number - len(around)
        else:
            function = around[number - 1]
            self.functions[place] = function
            self.variables.setdefault(function, []).append(place)

    def behind(self, edge):
        """The edges with which a walk goes on behind this one, each with what it does."""
        if edge not in self.known:
            self.known[edge] = self.ways_down(edge - 1) if edge > 0 else self.ways_up(-edge - 1)
        return self.known[edge]

    def ways_down(self, place):
        """The ways to go on where a walk has gone down to the part."""
        if self.term[place] == 0:
            return {place + 2: PUT_CALL}
        if self.term[place] == -1:
            ways = {-(variable + 1): TAKE_VARIABLE for variable in self.variables.get(place, [])}
            ways[place + 2] = TAKE_CALL
            return ways
        # Nothing goes up above the first part, and above the function of an open variable.
        function = self.functions.get(place, 0)
        return {-(function + 1): PUT_VARIABLE} if function > 0 else {}

    def ways_up(self, place):
        """The ways to go on where a walk has gone up from the part."""
        holder, kind = self.slots[place]
        if kind == "argument":
            return {holder + 2: PUT_ARGUMENT}
        if kind == "body":
            return {-(holder + 1): PUT_CALL} if holder > 0 else {}
        ways = {self.arguments[holder] + 1: TAKE_ARGUMENT}
        if holder > 0:
            ways[-(holder + 1)] = TAKE_CALL
        return ways

    def row_size(self, variable):
        """How many entries of the log tell where a variable stands within its function."""
        return self.levels[variable] - self.levels[self.functions[variable]]
