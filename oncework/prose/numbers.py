"""The texts of integers and of rows of them.

Nothing is checked here: callers pass strings of any characters and any length.
"""

DIGITS = "0123456789"
MOST_DIGITS = 60


def digits_of(piece):
    """What stands behind the sign of an integer's text."""
    return piece.removeprefix("-")


def tells_number(piece):
    """Whether the piece is the text of an integer, of however many digits."""
    digits = digits_of(piece)
    if len(digits) == 0 or any([sign not in DIGITS for sign in digits]):
        return False
    # A zero stands neither ahead of a digit nor behind a sign.
    return digits[0] != "0" or piece == "0"


def wrong_spot(text):
    """The index at which the first piece begins that a row cannot have, None if it is a row."""
    if text == "-":
        return None
    spot = 0
    for piece in text.split(","):
        if not tells_number(piece):
            return spot
        spot += len(piece) + 1
    return None


def has_long(text):
    """Whether the text of a row has an integer that is too long to be passed."""
    return any([len(digits_of(piece)) > MOST_DIGITS for piece in text.split(",")])


def row_told(text):
    """The row of which this is the text."""
    if text == "-":
        return ()
    return tuple([int(piece) for piece in text.split(",")])


def row_text(row):
    """The text of a row of integers."""
    if len(row) == 0:
        return "-"
    return ",".join([str(number) for number in row])
