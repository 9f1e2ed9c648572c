"""Terms that several tests use, wrong values, and random terms."""

import random

import model
from oncework.errors import InvalidTerm, ParseError, TooMany

I = (-1, 1)
COPY = (-1, 0, 1, 1)
TWICE = (0, -1, 0, 1, 1, 0, -1, 1, -1, 1)
CHAIN = (0, -1, 1, 0, -1, 1, 2)

# Doing its only step makes the same term again.
LOOP = (0,) + COPY + COPY

# A function in the body, open variables of several depths, a dropped argument.
DEEP = (-1, 0, -1, -1, 0, 0, 2, 4, 3, 0, -1, 5, 0, 1, 3)

LONG = (-1,) * 399 + (1,)
TOO_LONG = (-1,) * 400 + (1,)

# The argument has 199 parts, then 200: two copies and a call are 399 and 401.
GROWS = (0,) + COPY + (-1,) * 198 + (1,)
GROWS_TOO_LONG = (0,) + COPY + (-1,) * 199 + (1,)
GROWS_TO_400 = (0, -1, -1, 0, 2, 2) + (-1,) * 198 + (1,)

# The copy comes below one function, which raises its open variable by one.
RAISES = (0, -1, -1, 2, 999)
RAISES_TOO_HIGH = (0, -1, -1, 2, 1000)
GROWS_BOTH_WAYS = (0, -1, -1, 0, 2, 2) + (-1,) * 199 + (1000,)

# The argument of the outer step: its own step raises its variable, or drops it.
RAISES_TWICE = (0, -1, -1, 2, 0, -1, -1, 2, 999)
RAISES_WHAT_DROPS = (0, -1, -1, 2, 0, -1, 5, 1000)

# Of 40 parts, and of 41.
FORTY = (0,) + COPY + (-1,) * 34 + (1,)
FORTY_ONE = (0,) + COPY + (-1,) * 35 + (1,)

# Each level copies the level below: done from within it takes two steps for each
# level, done from the root more than sixty.
LEVELS = ((0,) + COPY) * 7 + I

# In each round a function that gives back its argument is made of the one before, and
# the word of its variable becomes twice as long.
BOTH_TIMES = (-1, -1, 0, 2, 0, 2, 1)
DOUBLING = (0, -1, 0, 0, 1, 1) + I + (-1, -1, 0, 0, 0, 2, 2, 0) + BOTH_TIMES + (
    1, 0, 0, 1) + I + (1,)


def doubling_history(rounds):
    """Two steps go on, three more make the function that does all of it twice again."""
    history = (0, 1, 0, 47, 48, 48)
    for done in range(1, rounds):
        history += (done + 1, done, done + 47, done + 48, done + 48)
    return history


# Terms with just so many steps of whole pieces from the root to the last form.
SIXTY_BY_PIECES = (0, -1, 0, -1, 0, 1, 0, 1, -1, 1, 0, -1, 0, 1, 1, 1, -1, 0, 1, 0, -1, 0, -1, 1, 1,
                   0, -1, 0, 1, 1, 0, 1, 2)

# The second step is new, and makes a term of just 400 parts; or of more.
NEW_TO_400 = (0, -1, 0, 1) + (0,) * 9 + (1,) * 10 + (-1, -1, 0, 0, 0, 2, 2, 2, 2)
NEW_ABOVE_400 = (0, -1, 0, 1) + (0,) * 9 + (1,) * 10 + (-1, -1, -1, 0, 0, 0, 3, 3, 3, 3)

WORKED = [I, COPY, TWICE, CHAIN, LOOP, DEEP, (1,), (1000,), (0, 3, 3), RAISES]


def nested(value, wrap, deep):
    """The value within so many tuples, lists or dicts."""
    for _ in range(deep):
        value = wrap(value)
    return value


# None of these is a term, a place, a number to raise by, a history or a lot.
JUNK = [
    None, True, False, "", "0", "(0, 1, 1)", "a\tb\nc", "x" * 20000,
    [], [0], [1], [0, 1, 1], [[]], {}, {0: 1}, {"a": [1]},
    nested(1, lambda x: (x,), 8), nested(1, lambda x: [x], 8), nested(1, lambda x: {"k": x}, 8),
    InvalidTerm("x"), ParseError(None), TooMany(400),
    10 ** 60 - 1, 10 ** 60, -10 ** 60 + 1, -10 ** 60, 10 ** 219, -10 ** 219,
    (True,), (False,), (None,), ("0",), ("1",), ([0],), ((0,),), ((),), ({},), (InvalidTerm("x"),),
    (10 ** 60 - 1,), (10 ** 60,), (-10 ** 219,), (-2,), (0, 0), (0, None), (0, "1", 1), (0, [1], 1),
]

WRONG_TERMS = JUNK + [
    0, 1, -1, (), (0,), (-1,), (0, 1), (-1, 0, 1), (1, 1), (0, 1, 1, 1), (1, -1), (0, 1, -1),
    (-2, 1), (0, -2, 1), (1001,), (-1, 1001), (0, 1, 1001), (0, True, 1), (0, 1, True),
    (False, 1, 1), (-1, True), (0, 1, False), (0, 1, None), (0, 1, "1"), (0, 1, (1,)),
    (0, 1, 10 ** 60), TOO_LONG, [-1, 1], list(TWICE), (0,) * 5000, (1,) * 5000, (0, 1) * 200 + (1,),
]

# These four lists hold what is wrong of TWICE.
WRONG_PLACES = JUNK + [-1, -10, 10, 11, (), (0,), (5,), 1000]
WRONG_STEPS = WRONG_PLACES + [1, 2, 3, 4, 6, 7, 8, 9]
WRONG_HISTORIES = JUNK + [
    0, 5, [5], [0, 1], (1,), (-1,), (10,), (0, 5), (5, 5), (0, 1, 1), (0, True), (0, 1, False),
    (5, 0, 0, 0), (0, (1,)), (0, [1]), (0, 10 ** 60), (0,) * 61, (0,) * 5000,
]
WRONG_LOTS = JUNK + [
    0, 5, [0, 5], [5], (5, 0), (5, 5), (0, 5, 5), (1,), (-1,), (10,), (-5,), (0, 1), (0, 5, 6),
    (False, 5), (0, True), (0, 5, None), (0, (5,)), (0, [5]), (0, 10 ** 60), (0,) * 5000,
]
WRONG_NUMBERS = JUNK + [-1, 1001, -1000, (), (0,), (1, 2)]
WRONG_COUNTS = JUNK + [-1, 61, 151, 1000, (), (0,), (1, 2)]

# From stage 4 on.
WRONG_SMALL_TERMS = WRONG_TERMS + [FORTY_ONE, LONG]
WRONG_FEW_TERMS = WRONG_SMALL_TERMS + [FORTY, (-1,) * 12 + (1,)]

# None of these is a name for the ten letters of TWICE, a lot of names, or a row of names.
WRONG_NAMES = [value for value in JUNK if value != ((0,),)] + [
    0, 1, (), (1,), ((),), ([1],), [(1,)], ((1,), [6]), ((1, 10),), ((1, 10, 1),), ((10,),), ((-1,),),
    ((1,), (6,)), ((1,), (1, 10)), ((1,), (1, 12, 1)), ((1,), (1, 9, 1)), ((1,), (10, 10, 1)),
    ((1,), (1,)), ((6,), (1,), (3, 12, 5, 10, 7)), ((1,), (6,), (3, 11, 5)), ((True,),), ((False,),),
    ((1,), (True, 10, 1)), ((1,), (1, 10, None)), ((1,), ("1", 10, 1)), ((1,), (1, (10,), 1)),
    (1, (1, 10, 1)), ((1,), None), ((1,), 6), (((1,),),), ((10 ** 60,),), ((1,), (1, 10 ** 60, 1)),
    ((0,), (0, 10, 1), (0, 10, 2, 12, 1, 16, 1)),
]
NAME = ((1,),)
NAMES = (((1,),), ((6,),))
WRONG_LOTS_OF_NAMES = JUNK + [
    0, NAME, ((6,),), list(NAMES), (((6,),), ((1,),)), (((1,),), ((1,),)), (NAME, None), (None, NAME),
    (NAME, [(6,)]), (NAME, ((True,),)), (NAME, ((10,),)), ((),), (NAME, ()), ((NAME,),),
    tuple([((k,),) for k in range(10)]) + (((1,), (1, 10, 1)), ((1,), (1, 10, 2)), ((1,), (1, 10, 3))),
]
WRONG_ROWS = JUNK + [
    0, NAME, ((6,),), list(NAMES), (NAME, None), (None, NAME), (NAME, [(6,)]), (NAME, ((True,),)),
    (NAME, ((10,),)), ((),), (NAME, ()), ((NAME,),), (NAME,) * 61,
]


def random_term(rng, parts, depth=0):
    """A term with about so many parts, some of its variables open."""
    if parts <= 1:
        return (rng.randint(1, depth + 2),)
    if parts == 2 or rng.random() < 0.35:
        return (-1,) + random_term(rng, parts - 1, depth + 1)
    left = rng.randint(1, parts - 2)
    if rng.random() < 0.6 and left > 1:
        function = (-1,) + random_term(rng, left - 1, depth + 1)
    else:
        function = random_term(rng, left, depth)
    return (0,) + function + random_term(rng, parts - 1 - left, depth)


def random_terms(seed, many, parts):
    """So many random terms with at most about so many parts, always the same."""
    rng = random.Random(seed)
    return [random_term(rng, rng.randint(1, parts)) for _ in range(many)]


def lively_term(rng, parts, depth=0):
    """As `random_term`, with more steps, and functions that use their parameters more often."""
    if parts <= 1:
        return (rng.randint(1, max(1, depth + (rng.random() < 0.3))),)
    if parts == 2 or rng.random() < 0.15:
        return (-1,) + lively_term(rng, parts - 1, depth + 1)
    left = rng.randint(1, parts - 2)
    if left > 1 and rng.random() < 0.7:
        function = (-1,) + lively_body(rng, left - 1, depth + 1)
    else:
        function = lively_term(rng, left, depth)
    return (0,) + function + lively_term(rng, parts - 1 - left, depth)


def lively_body(rng, parts, depth):
    """A part within a function that most of its variables are the parameter of."""
    if parts <= 1:
        return (1 if rng.random() < 0.8 else rng.randint(1, depth + 1),)
    if parts == 2 or rng.random() < 0.25:
        return (-1,) + lively_body(rng, parts - 1, depth + 1)
    left = rng.randint(1, parts - 2)
    if left > 1 and rng.random() < 0.6:
        function = (-1,) + lively_body(rng, left - 1, depth + 1)
    else:
        function = lively_body(rng, left, depth)
    return (0,) + function + lively_body(rng, parts - 1 - left, depth)


def lively_terms(seed, many, parts):
    """So many lively terms with at most so many parts, each with a step; always the same."""
    rng = random.Random(seed)
    found = []
    while len(found) < many:
        term = lively_term(rng, rng.randint(4, parts))
        if len(term) <= parts and (0, -1) in zip(term, term[1:]):
            found.append(term)
    return found


def some_history(rng, term, most):
    """A history of at most so many steps, all of its terms being let."""
    history = ()
    while len(history) < most:
        places = [at for at in range(len(term) - 1) if term[at:at + 2] == (0, -1)]
        if not places:
            break
        place = rng.choice(places)
        term = model.done(term, place)[0]
        if len(term) > 400 or max(term) > 1000:
            break
        history += (place,)
    return history


# A walk through LOOP can go on for ever; a balanced one of 399 integers, which sticks.
AROUND = (2, 3, 4, -2, 6, -8, 9, -6)
WALK_400 = AROUND * 50
WALK_401 = WALK_400 + (2,)
BALANCED_399 = (8, -6, 2, -5, 4, -2, 6) + (-9, 8, -6, 2, -4, 5, -2, 6) * 48 + (
    -8, 9, -6, 2, -4, 5, -2, 6)

DOUBLE = (0, -1, 0, 1, 1, -1, 1)

# None of these is a walk of TWICE, of what one of its steps makes, or of a term behind these.
WRONG_WALKS = JUNK + [
    0, 2, 7, [2], [7], (1,), (-1,), (-2,), (3,), (-7,), (11,), (-11,), (100,), (2, 2), (2, 1),
    (2, True), (2, False), (True, 2), (2, None), (2, "3"), (2, (3,)), (2, [3]), (2, 10 ** 60),
    (2, 3, 4, 5), (2, -4, -3, 2), (2,) * 400, (2,) * 5000, ((2,),), ((2,), (7,)),
]
WRONG_PATHS = JUNK + [
    0, 1, [0], [], (-1,), (0, -1), (0, True), (False, 0), (0, (1,)), (0, [1]), (0, 10 ** 60),
    (0,) * 13, (0,) * 5000,
]
