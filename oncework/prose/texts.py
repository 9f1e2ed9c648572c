"""Texts: terms, rows of integers and rows of rows, written and read."""

from oncework.errors import InvalidOperation, ParseError
from oncework.ground.shapes import is_whole
from oncework.ground.terms import MAX_PARTS, MAX_VARIABLE, check_term
from oncework.prose.numbers import DIGITS, has_long, row_text, row_told, wrong_spot

MAX_TEXT = 20000
MOST_INTEGERS = 2000

# What can stand next where a term is read, other than the signs " " and ")".
PART = "part"
END = "end"


def check_text(text):
    """Refuse what is no string of at most 20,000 characters."""
    if not isinstance(text, str) or len(text) > MAX_TEXT:
        raise ParseError(None)


def write_term(term):
    """The text of a term."""
    check_term(term)
    signs = []
    # For each call that is open the sign behind the part of it that is being written.
    waiting = []
    for part in term:
        if part == 0:
            signs.append("(")
            waiting.append(" ")
        elif part == -1:
            signs.append("\\")
        else:
            signs.append(str(part))
            while len(waiting) > 0 and waiting[-1] == ")":
                signs.append(waiting.pop())
            if len(waiting) > 0:
                signs.append(" ")
                waiting[-1] = ")"
    return "".join(signs)


def variable_end(text, start):
    """The index behind the last digit of a variable, refusing the digit that makes it too great."""
    end = start + 1
    while end < len(text) and text[end] in DIGITS:
        end += 1
        if int(text[start:end]) > MAX_VARIABLE:
            raise ParseError(end - 1)
    return end


def read_part(text, at, term, waiting):
    """Reads the beginning of a part, and returns the index behind it and what can stand there.

    Puts the part on the term, and what follows the function part of a call on `waiting`.
    """
    if len(term) == MAX_PARTS:
        raise ParseError(at)
    if text[at] == "(":
        term.append(0)
        waiting.append(" ")
        return at + 1, PART
    if text[at] == "\\":
        term.append(-1)
        return at + 1, PART
    if text[at] == "0" or text[at] not in DIGITS:
        raise ParseError(at)
    end = variable_end(text, at)
    term.append(int(text[at:end]))
    return end, waiting[-1] if len(waiting) > 0 else END


def read_term(text):
    """The term with the text."""
    check_text(text)
    term = []
    waiting = []
    at = 0
    wanted = PART
    while at < len(text):
        if wanted == PART:
            at, wanted = read_part(text, at, term, waiting)
            continue
        if text[at] != wanted:
            raise ParseError(at)
        at += 1
        if wanted == " ":
            waiting[-1] = ")"
            wanted = PART
        else:
            waiting.pop()
            wanted = waiting[-1] if len(waiting) > 0 else END
    if wanted != END:
        raise ParseError(len(text))
    return tuple(term)


def check_rows(rows):
    """Refuse what is no tuple of tuples of at most 2000 integers together."""
    if not isinstance(rows, tuple):
        raise InvalidOperation("not a tuple of rows")
    many = 0
    for row in rows:
        if not isinstance(row, tuple) or not all([is_whole(number) for number in row]):
            raise InvalidOperation("not a tuple of integers")
        many += len(row)
    if many > MOST_INTEGERS:
        raise InvalidOperation("more than 2000 integers")


def write_row(value):
    """The text of a row of integers."""
    check_rows((value,))
    return row_text(value)


def write_rows(value):
    """The text of a tuple of rows."""
    check_rows(value)
    if len(value) == 0:
        return "+"
    return "/".join([row_text(row) for row in value])


def rows_told(texts):
    """The rows with these texts, which stand one behind the other with a sign between them."""
    ahead = 0
    for text in texts:
        spot = wrong_spot(text)
        if spot is not None:
            raise ParseError(ahead + spot)
        ahead += len(text) + 1
    if any([has_long(text) for text in texts]):
        raise InvalidOperation("an integer of more than 60 digits")
    rows = tuple([row_told(text) for text in texts])
    check_rows(rows)
    return rows


def read_row(text):
    """The row of integers with the text."""
    check_text(text)
    return rows_told([text])[0]


def read_rows(text):
    """The tuple of rows with the text."""
    check_text(text)
    if text == "+":
        return ()
    return rows_told(text.split("/"))
