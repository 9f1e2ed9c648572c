"""Logs: texts that tell a bench, its first term in one line and each deed in a further one."""

from oncework.bench.bench import Bench
from oncework.errors import InvalidOperation, ParseError, TooMany, WorkError
from oncework.prose.numbers import has_long, row_text, row_told, wrong_spot

BEGINNING = "bench"


def deed_line(deed):
    """The line of a deed."""
    word, told = deed
    row = told if word == "run" else (told,)
    return f"{word} {row_text(row)}"


def log_text(bench):
    """The log of a bench."""
    if not isinstance(bench, Bench):
        raise InvalidOperation("not a bench")
    lines = [f"{BEGINNING} {row_text(bench.first_term)}"]
    lines.extend([deed_line(deed) for deed in bench.deeds])
    return "".join([f"{line}\n" for line in lines])


def line_told(line):
    """The word of a line and its row of integers, which is None for a line that is wrong."""
    word, _, text = line.partition(" ")
    if wrong_spot(text) is not None or has_long(text):
        return word, None
    return word, row_told(text)


def bench_told(line):
    """The bench that the first line tells, None if this is wrong."""
    word, row = line_told(line)
    if word != BEGINNING or row is None:
        return None
    try:
        return Bench(row)
    except WorkError:
        return None


def do_told(bench, word, row):
    """Does the deed with this word; any other word tells none."""
    if word == "run":
        bench.run(row)
    elif word == "do" and len(row) == 1:
        bench.do(row[0])
    elif word == "piece" and len(row) == 1:
        bench.do_piece(row[0])


def do_line(bench, line):
    """Does the deed that a line tells, and returns whether the line is right."""
    many = len(bench.deeds)
    word, row = line_told(line)
    if row is None:
        return False
    try:
        do_told(bench, word, row)
    except (WorkError, TooMany):
        return False
    return len(bench.deeds) > many and deed_line(bench.deeds[-1]) == line


def read_log(text):
    """The bench that a log tells, and how many characters its whole lines have."""
    if not isinstance(text, str):
        raise ParseError(None)
    lines = text.split("\n")[:-1]
    if len(lines) == 0:
        raise ParseError(0)
    bench = bench_told(lines[0])
    if bench is None:
        raise ParseError(0)
    for index, line in enumerate(lines[1:]):
        if not do_line(bench, line):
            raise ParseError(index + 1)
    return bench, text.rfind("\n") + 1
