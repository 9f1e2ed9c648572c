"""Stages 10 to 13 as the document tells them, word by word, to compare with.

Nothing is fast here. What is known of a term comes from the tree model.
"""

import meanings
from meanings import facts, origins, rests, step


def holder(term, place):
    return facts(term)[place][1]


def kind(term, place):
    return facts(term)[place][2]


def level(term, place):
    return facts(term)[place][4]


def function(term, place):
    return facts(term)[place][5]


def argument(term, call):
    return facts(term)[call + 1][0]


def down(place):
    return place + 1


def up(place):
    return -(place + 1)


def part(edge):
    """The part whose edge an integer goes along."""
    return abs(edge) - 1


# Stage 10.

def ways(term, edge):
    """The ways to go on [10.1]."""
    at = part(edge)
    if edge > 0 and term[at] == 0:
        found = [down(at + 1)]
    elif edge > 0 and term[at] == -1:
        found = [down(at + 1)] + [up(v) for v in range(len(term))
                                  if term[v] > 0 and function(term, v) == at]
    elif edge > 0:
        found = [] if function(term, at) is None else [up(function(term, at))]
    elif kind(term, at) == "function":
        found = [up(holder(term, at)), down(argument(term, holder(term, at)))]
    elif kind(term, at) == "argument":
        found = [down(holder(term, at) + 1)]
    else:
        found = [up(holder(term, at))]
    return sorted([way for way in found if way != up(0)])


def beginnings(term):
    return [down(at) for at in range(1, len(term)) if kind(term, at) == "function"]


def is_walk(term, walk):
    return (1 <= len(walk) <= 400 and walk[0] in beginnings(term)
            and all(edge in ways(term, last) for last, edge in zip(walk, walk[1:])))


def walks_to(term, most):
    """All walks of at most so many integers, ascending."""
    found = [(edge,) for edge in beginnings(term)]
    for walk in found:
        if len(walk) < most:
            found.extend([walk + (edge,) for edge in ways(term, walk[-1])])
    return sorted(found)


def mark(term, last, edge):
    """What is put on the end of the row of marks, or taken off it [10.2]."""
    if last > 0 and term[part(last)] == 0:
        return "put", "call"
    if last < 0 and kind(term, part(last)) == "body":
        return "put", "call"
    if last > 0 and term[part(last)] > 0:
        return "put", "copy"
    if last < 0 and kind(term, part(last)) == "argument":
        return "put", "copy"
    if last > 0:
        return ("take", "call") if edge > 0 else ("take", "copy")
    return ("take", "call") if edge < 0 else ("take", "copy")


def marks_along(term, walk):
    """The rows of marks behind each integer; None behind one that takes what is not there."""
    rows = [("call",)]
    for last, edge in zip(walk, walk[1:]):
        way, told = mark(term, last, edge)
        if way == "put":
            rows.append(rows[-1] + (told,))
        elif len(rows[-1]) > 1 and rows[-1][-1] == told:
            rows.append(rows[-1][:-1])
        else:
            return rows + [None]
    return rows


def is_balanced(term, walk):
    return (is_walk(term, walk) and marks_along(term, walk)[-1] == ("call",)
            and walk[-1] > 0 and term[part(walk[-1])] == -1)


def backwards(walk):
    return tuple([-edge for edge in reversed(walk)])


def word_of_walk(term, walk):
    """The word that is read along a balanced walk [10.4], as those of stage 5."""
    word = (part(walk[0]),)
    at = 1
    while at < len(walk):
        if term[word[-1]] == 0:
            way, turn = "over", tuple
        else:
            way, turn = "under", backwards
        ends = [end for end in range(at + 1, len(walk))
                if is_balanced(term, turn(walk[at:end]))
                and part(walk[end]) == next_letter(term, way, turn(walk[at:end]))]
        assert len(ends) == 1
        inner = word_of_walk(term, turn(walk[at:ends[0]]))
        word += ((way, meanings.sign_of(inner)), part(walk[ends[0]]))
        at = ends[0] + 1
    return word


def next_letter(term, way, inner):
    """The body of the function where a walk ends, or the argument of the call where it begins."""
    return part(inner[-1]) + 1 if way == "over" else argument(term, holder(term, part(inner[0])))


def name_of_walk(term, walk):
    return meanings.tell(len(term), word_of_walk(term, walk))


def walk_of_word(word):
    """The walk that is read off a word [10.5]."""
    walk = ()
    for sign in word:
        if not isinstance(sign, tuple):
            walk += (sign + 1,)
        elif sign[0] == "over":
            walk += walk_of_word(meanings.SIGNS[sign[1]])
        else:
            walk += backwards(walk_of_word(meanings.SIGNS[sign[1]]))
    return walk


# Stage 11. An unknown entry is a number, a known one a pair of a variable and of a row.

class Stuck(Exception):
    """The machine sticks at the integer with this index."""


class Stacks:
    """The first log, the log and the tape with its top at its end, and how many are unknown."""

    def __init__(self, first):
        self.first = self.log = first
        self.tape = ("call",)
        self.many = len(first)

    def become(self, unknown, entry):
        """Puts an entry in the place of an unknown one, wherever it stands."""
        def put(entries):
            return tuple([entry if told == unknown else
                          (told[0], put(told[1])) if isinstance(told, tuple) else told
                          for told in entries])
        self.first, self.log, self.tape = put(self.first), put(self.log), put(self.tape)

    def take(self):
        if not self.tape:
            raise Stuck
        top = self.tape[-1]
        self.tape = self.tape[:-1]
        return top

    def take_entry(self):
        top = self.take()
        if top == "call":
            raise Stuck
        return top

    def go(self, term, last, edge):
        """What a further integer does [11.2]."""
        if last > 0 and term[part(last)] == 0:
            self.tape += ("call",)
        elif last > 0 and term[part(last)] == -1 and edge > 0:
            self.take_call()
        elif last > 0 and term[part(last)] == -1:
            self.up_from_variable(term, part(edge))
        elif last > 0:
            d = level(term, part(last)) - level(term, function(term, part(last)))
            self.tape += ((part(last), self.log[:d]),)
            self.log = self.log[d:]
        elif kind(term, part(last)) == "body":
            self.tape += ("call",)
        elif kind(term, part(last)) == "argument":
            self.tape += self.log[:1]
            self.log = self.log[1:]
        elif edge < 0:
            self.take_call()
        else:
            self.log = (self.take_entry(),) + self.log

    def take_call(self):
        if self.take() != "call":
            raise Stuck

    def up_from_variable(self, term, variable):
        d = level(term, variable) - level(term, function(term, variable))
        top = self.take_entry()
        if isinstance(top, int):
            row = tuple(range(self.many, self.many + d))
            self.many += d
            self.become(top, (variable, row))
            top = (variable, row)
        if top[0] != variable:
            raise Stuck
        self.log = top[1] + self.log


def stacks_along(term, walk, first=None):
    """The stacks behind each integer of a walk, up to where the machine sticks."""
    if first is None:
        first = tuple(range(level(term, holder(term, part(walk[0])))))
    found = [Stacks(first)]
    now = Stacks(first)
    for last, edge in zip(walk, walk[1:]):
        try:
            now.go(term, last, edge)
        except Stuck:
            break
        behind = Stacks(now.first)
        behind.log, behind.tape, behind.many = now.log, now.tape, now.many
        found.append(behind)
    return found


def told_log(entries):
    """The entries of a log as [11.3] tells them."""
    return tuple([None if isinstance(entry, int) else (entry[0], told_log(entry[1]))
                  for entry in entries])


# Stage 12.

def led_row(term, place, k):
    """The row of edges to which the edge above a part behind a step is led [12.1]."""
    o = origins(term, place)[k]
    a = argument(term, place)
    if o == a:
        copies = rests(term, place, (a,))
        parameters = [v for v in range(len(term)) if term[v] > 0 and function(term, v) == place + 1]
        v = parameters[copies.index(k)]
        row = (v + 1, -(place + 2), a + 1)
        return (place + 1, place + 2) + row if v == place + 2 else row
    if o == place + 2:
        return (place + 1, place + 2, place + 3)
    return (o + 1,)


def led_walk(term, place, walk):
    made = ()
    for edge in walk:
        row = led_row(term, place, part(edge))
        made += row if edge > 0 else backwards(row)
    return made


def walk_of_step(term, history):
    """The walk of the last step [12.3]."""
    terms = [term]
    for place in history[:-1]:
        terms.append(step(terms[-1], place))
    walk = (history[-1] + 2,)
    for now, place in reversed(list(zip(terms, history[:-1]))):
        walk = led_walk(now, place, walk)
        if len(walk) > 2000:
            raise meanings.TooBig
    return walk


# Stage 13.

def front(term):
    """The front of a term [13.1], None if a step is met."""
    at = k = m = 0
    while term[at] == -1:
        at, k = at + 1, k + 1
    while term[at] == 0:
        at, m = at + 1, m + 1
    return None if term[at] == -1 else (k, term[at], m)


def head_front(term, most=400):
    """The front of the head form, to which the order from the root leads; None if too far."""
    for _ in range(most):
        if front(term) is not None:
            return front(term)
        term = step(term, meanings.steps(term)[0])
    return None


def argument_places(term, place):
    """The places of the arguments of the front of a part of a last form, by their indexes."""
    while term[place] == -1:
        place += 1
    found = []
    while term[place] == 0:
        found.append(argument(term, place))
        place += 1
    return found[::-1]


def paths_of(form, most):
    """All paths of a last form with at most so many indexes, in their order, and their places."""
    found = []

    def visit(path, place):
        found.append((path, place))
        if len(path) < most:
            for index, at in enumerate(argument_places(form, place)):
                visit(path + (index,), at)

    visit((), 0)
    return found


class Reader:
    """The reader by its rules, one by one; the top of the tape is its first item."""

    def __init__(self, term):
        self.term = term
        self.log, self.tape = [], []
        self.way, self.at = "down", 0
        self.gone = 1
        self.indexes = 0
        self.counts = [0]

    def read(self):
        """Goes on until the reader ends [13.2]."""
        while not self.has_ended():
            self.way, self.at = self.go()
            self.gone += 1
            if self.gone > 10000:
                raise meanings.TooBig

    def has_ended(self):
        if self.way == "up":
            return self.at == 0
        return self.term[self.at] > 0 and function(self.term, self.at) is None

    def go(self):
        term, at = self.term, self.at
        if self.way == "down" and term[at] == 0:
            self.tape.insert(0, "call")
            return "down", at + 1
        if self.way == "down" and term[at] == -1:
            if not self.tape:
                self.counts[-1] += 1
                return "down", at + 1
            top = self.tape.pop(0)
            if top == "call":
                return "down", at + 1
            assert function(term, top[0]) == at
            self.log[:0] = top[1]
            return "up", top[0]
        if self.way == "down":
            d = level(term, at) - level(term, function(term, at))
            self.tape.insert(0, (at, self.log[:d]))
            del self.log[:d]
            return "up", function(term, at)
        if kind(term, at) == "body":
            self.tape.insert(0, "call")
            return "up", holder(term, at)
        if kind(term, at) == "argument":
            self.tape.insert(0, self.log.pop(0))
            return "down", holder(term, at) + 1
        top = self.tape.pop(0)
        if top == "call":
            return "up", holder(term, at)
        self.log.insert(0, top)
        return "down", argument(term, holder(term, at))

    def turn(self, index):
        """Turns round to go on to the argument with the index [13.4]."""
        entry = self.entry()[0]
        kept = [] if entry is None else self.tape[:entry + 1]
        self.indexes += 1
        self.tape = kept + ["call"] * index + [("mark", self.indexes)]
        self.counts.append(0)
        self.way = "up" if self.way == "down" else "down"
        self.gone += 1

    def entry(self):
        """Where the entry stands that tells n, a, and since which count parameters count [13.5]."""
        if all(item == "call" for item in self.tape):
            return None, None, 0
        marks = [at for at, item in enumerate(self.tape) if item[0] == "mark"]
        if not marks:
            at = min([at for at, item in enumerate(self.tape) if item != "call"])
            return at, at, 0
        low = max(marks)
        at = min([at for at in range(low + 1, len(self.tape)) if self.tape[at] != "call"])
        return at, at - low - 1, self.tape[low][1]

    def front(self):
        at, a, since = self.entry()
        if at is None:
            number = self.term[self.at] - facts(self.term)[self.at][3]
            return self.counts[-1], sum(self.counts) + number, len(self.tape)
        below = self.tape[at + 1:]
        assert all(item == "call" for item in below)
        return self.counts[-1], sum(self.counts[since:]) - a, len(below)


def reader_at(term, path):
    reader = Reader(term)
    reader.read()
    for index in path:
        assert index < reader.front()[2]
        reader.turn(index)
        reader.read()
    return reader


def read_form(term):
    """The last form put together of all fronts, or the limit of the first error [13.6]."""
    form = []

    def visit(path):
        if len(path) > 12:
            return 12
        try:
            reader = reader_at(term, path)
        except meanings.TooBig:
            return 4000
        if reader.gone > 4000:
            return 4000
        k, n, m = reader.front()
        form.extend([-1] * k + [0] * m + [n])
        if len(form) > 400:
            return 400
        for index in range(m):
            limit = visit(path + (index,))
            if limit is not None:
                return limit
        return None

    limit = visit(())
    if limit is None and max(form) > 1000:
        limit = 1000
    return tuple(form) if limit is None else limit
