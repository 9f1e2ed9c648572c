"""Numerals: terms that give a thing to a function so many times."""

from oncework.errors import InvalidNumber
from oncework.ground.shapes import is_whole_within, raised_parts
from oncework.ground.terms import check_limits, check_term

MAX_NUMERAL = 150


def numeral_parts(number):
    """The numeral of a number of any size."""
    return (-1, -1) + (0, 2) * number + (1,)


def numeral(number):
    """The numeral of the number."""
    if not is_whole_within(number, 0, MAX_NUMERAL):
        raise InvalidNumber(number)
    return numeral_parts(number)


def numeral_of(term):
    """The number whose numeral the term is, None if it is none."""
    check_term(term)
    number = (len(term) - 3) // 2
    if term == numeral_parts(number):
        return number
    return None


def below(term, functions):
    """The term as it stands below so many functions more."""
    return tuple(raised_parts(term, functions))


def check_terms(one, other):
    """Refuse the first of two values that is no term."""
    check_term(one)
    check_term(other)


def sum_term(one, other):
    """The function of f and x that gives f, and what `other` makes of f and x, to `one`."""
    check_terms(one, other)
    made = (-1, -1, 0, 0) + below(one, 2) + (2, 0, 0) + below(other, 2) + (2, 1)
    check_limits(made)
    return made


def product_term(one, other):
    """The function of f that gives what `other` makes of f to `one`."""
    check_terms(one, other)
    made = (-1, 0) + below(one, 1) + (0,) + below(other, 1) + (1,)
    check_limits(made)
    return made


def power_term(one, other):
    """The call that gives `one` to `other`."""
    check_terms(one, other)
    made = (0,) + other + one
    check_limits(made)
    return made
