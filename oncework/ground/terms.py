"""Terms: variables, functions with one parameter, and calls."""

from oncework.errors import InvalidNumber, InvalidOperation, InvalidPlace, InvalidTerm, TooMany
from oncework.ground.shapes import depths_in, end_behind, holders_of_kind
from oncework.ground.shapes import is_whole_within, raised_parts, slots_of

MAX_PARTS = 400
MAX_VARIABLE = 1000

# From stage 4 on the terms that are passed have at most so many parts.
SMALL_PARTS = 40


def is_term(value):
    """Whether the value is a term that may be passed."""
    if not isinstance(value, tuple) or len(value) > MAX_PARTS:
        return False
    wanted = 1
    for part in value:
        # Asked here and not by a helper, as nearly every call of the package asks this.
        if wanted == 0 or not isinstance(part, int) or part is True or part is False:
            return False
        if part > 0:
            wanted -= 1
        elif part == 0:
            wanted += 1
        elif part < -1:
            return False
    return wanted == 0 and max(value) <= MAX_VARIABLE


def check_term(term):
    """Refuse what is no term."""
    if not is_term(term):
        raise InvalidTerm("no term with at most 400 parts and variables up to 1000")


def check_small_term(term):
    """Refuse what is no term, and one with too many parts to be passed."""
    if not is_term(term) or len(term) > SMALL_PARTS:
        raise InvalidTerm("no term with at most 40 parts and variables up to 1000")


def check_place(term, place):
    """Refuse what is not the place of a part of the term."""
    if not is_whole_within(place, 0, len(term) - 1):
        raise InvalidPlace("not the place of a part of the term")


def passed_limit(term):
    """The bound that a term that was made is above, None if there is none."""
    if len(term) > MAX_PARTS:
        return MAX_PARTS
    if max(term) > MAX_VARIABLE:
        return MAX_VARIABLE
    return None


def check_limits(term):
    """Refuse a term that was made and is too large."""
    limit = passed_limit(term)
    if limit is not None:
        raise TooMany(limit)


def check_made(parts, made):
    """As `check_limits`, where all but the integers that were made is known to be let."""
    if len(parts) > MAX_PARTS:
        raise TooMany(MAX_PARTS)
    if max(made) > MAX_VARIABLE:
        raise TooMany(MAX_VARIABLE)


def part_end(term, place):
    """The index behind the last part within the part at the place."""
    check_term(term)
    check_place(term, place)
    return end_behind(term, place)


def part_of(term, place):
    """The part at the place as a term, its integers as they stand."""
    check_term(term)
    check_place(term, place)
    return term[place:end_behind(term, place)]


def holder_of(term, place):
    """The place of the part directly around the part, None for the place 0."""
    check_term(term)
    check_place(term, place)
    holder, _ = slots_of(term)[place]
    return holder


def kind_of(term, place):
    """How the part is held: "body", "function", "argument" or "root"."""
    check_term(term)
    check_place(term, place)
    _, kind = slots_of(term)[place]
    return kind


def depth_of(term, place):
    """How many functions are around the part."""
    check_term(term)
    check_place(term, place)
    return len(holders_of_kind(term, place, "body"))


def level_of(term, place):
    """How many arguments of calls the part stands in, or is."""
    check_term(term)
    check_place(term, place)
    return len(holders_of_kind(term, place, "argument"))


def function_of(term, place):
    """The place of the function whose parameter the variable is, None if open."""
    check_term(term)
    check_place(term, place)
    if term[place] < 1:
        raise InvalidOperation("the part is no variable")
    around = holders_of_kind(term, place, "body")
    if term[place] > len(around):
        return None
    return around[term[place] - 1]


def variables_of(term, place):
    """The places of all variables that are the parameter of the function."""
    check_term(term)
    check_place(term, place)
    if term[place] != -1:
        raise InvalidOperation("the part is no function")
    depths = depths_in(term)
    inside = range(place + 1, end_behind(term, place))
    # Parts inside are deeper than the function, so calls and functions never fit.
    return tuple([at for at in inside if term[at] == depths[at] - depths[place]])


def open_variables(term):
    """The numbers of the open variables of the term, ascending."""
    check_term(term)
    depths = depths_in(term)
    return tuple(sorted({part - depth for part, depth in zip(term, depths) if part > depth}))


def raised_term(term, number):
    """The term with each open variable made greater by the number."""
    check_term(term)
    if not is_whole_within(number, 0, MAX_VARIABLE):
        raise InvalidNumber(number)
    raised = tuple(raised_parts(term, number))
    check_limits(raised)
    return raised


def called(term, other):
    """The call of the first term with the second one as its argument."""
    check_term(term)
    check_term(other)
    call = (0,) + term + other
    check_limits(call)
    return call


def function_with(term):
    """The function whose body is the term."""
    check_term(term)
    function = (-1,) + term
    check_limits(function)
    return function
