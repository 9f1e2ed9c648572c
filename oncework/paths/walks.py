"""Walks along the edges of a term, balanced walks, and the names that these tell."""

from oncework.errors import InvalidNumber, InvalidOperation, InvalidWalk, TooMany
from oncework.ground.shapes import is_whole, is_whole_within
from oncework.ground.terms import check_small_term
from oncework.labels.names import MAX_WORDS, check_name
from oncework.labels.words import Book
from oncework.paths.edges import PUT_CALL, Ways, turned

MAX_EDGES = 400
MOST_EDGES = 24
MOST_WALKS = 500


def moves_along(ways, value):
    """What each integer of a walk does, None if the value is no walk."""
    if not isinstance(value, tuple) or not 1 <= len(value) <= MAX_EDGES:
        return None
    following = ways.beginnings
    moves = []
    for edge in value:
        if not is_whole(edge) or edge not in following:
            return None
        moves.append(following[edge])
        following = ways.behind(edge)
    return moves


def moves_of_walk(ways, walk):
    """As `moves_along`, refusing what is no walk."""
    moves = moves_along(ways, walk)
    if moves is None:
        raise InvalidWalk("not a walk of the term")
    return moves


def is_walk(term, value):
    """Whether the value is a walk of the term."""
    check_small_term(term)
    return moves_along(Ways(term), value) is not None


def end_of_walk(ways, walk):
    """The place of the part to which the last integer goes."""
    if walk[-1] > 0:
        return walk[-1] - 1
    return ways.slots[-walk[-1] - 1][0]


def walk_end(term, walk):
    """The place of the part to which the last integer of the walk goes."""
    check_small_term(term)
    ways = Ways(term)
    moves_of_walk(ways, walk)
    return end_of_walk(ways, walk)


def next_edges(term, walk):
    """The integers with which the walk can go on, ascending."""
    check_small_term(term)
    ways = Ways(term)
    moves_of_walk(ways, walk)
    return tuple(sorted(list(ways.behind(walk[-1]))))


def ends_balanced(ways, walk, moves):
    """Whether a walk is balanced, its moves being told."""
    marks = []
    for move in moves:
        is_call = abs(move) == PUT_CALL
        if move > 0:
            marks.append(is_call)
        elif len(marks) == 1 or marks.pop() != is_call:
            return False
    return len(marks) == 1 and walk[-1] > 0 and ways.term[walk[-1] - 1] == -1


def fits_balanced(ways, value):
    """Whether the value is a balanced walk."""
    moves = moves_along(ways, value)
    return moves is not None and ends_balanced(ways, value, moves)


def is_balanced(term, value):
    """Whether the value is a balanced walk of the term."""
    check_small_term(term)
    return fits_balanced(Ways(term), value)


class Search:
    """The balanced walks of a term, found from the shortest ones on.

    A walk that has come down to a part goes on with a shorter balanced walk, or with one
    backwards, and then down to a further part; so nothing is tried that leads nowhere.
    """

    def __init__(self, ways):
        self.ways = ways
        self.many = 0
        self.begun = {}
        self.ended = {}
        self.rows = {}

    def find_walks(self, size):
        """Finds all walks with so many integers, all shorter ones having been found."""
        for edge in self.ways.beginnings:
            walks = [(edge,) + row for row in self.rows_from(edge - 1, size - 1)]
            self.begun[(edge - 1, size)] = walks
            for walk in walks:
                self.ended.setdefault((walk[-1] - 1, size), []).append(walk)
            self.many += len(walks)
            if self.many > MOST_WALKS:
                raise TooMany(MOST_WALKS)

    def rows_from(self, place, size):
        """The rows of so many edges with which a walk that is down at the part ends balanced."""
        if (place, size) not in self.rows:
            rows = [()] if size == 0 and self.ways.term[place] == -1 else []
            for row, further in self.rows_inside(place, size):
                rows.extend([row + rest for rest in self.rows_from(further, size - len(row))])
                # Each row is the end of a walk of its own that is not too long.
                if len(rows) > MOST_WALKS:
                    raise TooMany(MOST_WALKS)
            self.rows[(place, size)] = rows
        return self.rows[(place, size)]

    def rows_inside(self, place, size):
        """The rows that lead to the next part in one sign of the word, and the places of these."""
        rows = []
        for inner in range(1, size, 2):
            if self.ways.term[place] == 0:
                for walk in self.begun[(place + 1, inner)]:
                    rows.append((walk + (walk[-1] + 1,), walk[-1]))
            elif place in self.ways.functions:
                for walk in self.ended.get((self.ways.functions[place], inner), []):
                    argument = self.ways.arguments[walk[0] - 2]
                    rows.append((turned(walk) + (argument + 1,), argument))
        return rows


def balanced_walks(term, most):
    """All balanced walks of at most so many integers, ascending."""
    check_small_term(term)
    if not is_whole_within(most, 1, MOST_EDGES):
        raise InvalidNumber(most)
    search = Search(Ways(term))
    # Behind its first integer a balanced walk takes as often as it puts.
    for size in range(1, most + 1, 2):
        search.find_walks(size)
    return tuple(sorted([walk for walks in search.begun.values() for walk in walks]))


def number_read(book, row):
    """The number of the word that is read along a balanced walk, or along one backwards.

    The row has the integers of the walk, and between each two of them the pair of the
    number of an inner walk's word and of whether that one is gone forwards.
    """
    is_down = row[0] > 0
    word = []
    for k, told in enumerate(row):
        if k % 2 == 0:
            word.append(abs(told) - 1)
        else:
            number, goes_down = told
            word.append(book.letters + 2 * number + (0 if goes_down == is_down else 1))
    return book.number_of(tuple(word if is_down else word[::-1])), is_down


def name_of_walk(term, walk):
    """The name that a balanced walk tells, None if the walk is not balanced."""
    check_small_term(term)
    ways = Ways(term)
    moves = moves_of_walk(ways, walk)
    if not ends_balanced(ways, walk, moves):
        return None
    book = Book(len(term), MAX_WORDS)
    rows = []
    for edge, move in zip(walk, moves):
        if move > 0:
            rows.append([edge])
        else:
            inner = number_read(book, rows.pop())
            rows[-1].extend([inner, edge])
    number, _ = number_read(book, rows[0])
    return book.name_of(number)


def walk_size(name, letters):
    """How many integers the walk has that is read off a name."""
    sizes = []
    for word in name:
        size = len(word[::2])
        for sign in word[1::2]:
            size += sizes[(sign - letters) // 2]
        sizes.append(size)
    return sizes[-1]


def walk_read(name, letters):
    """The integers that are read off a name."""
    walks = []
    for word in name:
        walk = ()
        for k, sign in enumerate(word):
            if k % 2 == 0:
                walk += (sign + 1,)
            elif (sign - letters) % 2 == 0:
                walk += walks[(sign - letters) // 2]
            else:
                walk += turned(walks[(sign - letters) // 2])
        walks.append(walk)
    return walks[-1]


def walk_of_name(term, name):
    """The balanced walk that is read off a name."""
    check_small_term(term)
    check_name(len(term), name)
    if walk_size(name, len(term)) > MAX_EDGES:
        raise TooMany(MAX_EDGES)
    walk = walk_read(name, len(term))
    if not fits_balanced(Ways(term), walk):
        raise InvalidOperation("the name tells no balanced walk")
    return walk
