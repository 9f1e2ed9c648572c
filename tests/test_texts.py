"""Stage 15: texts of terms and of rows."""

import random
import unittest

from oncework.errors import InvalidOperation, InvalidTerm, ParseError, TooMany
from oncework.ground.terms import is_term
from oncework.labels.names import names_along
from oncework.prose import texts as module
from oncework.prose.texts import read_row, read_rows, read_term, write_row, write_rows, write_term
from samples import (CHAIN, COPY, DEEP, FORTY_ONE, I, JUNK, LONG, LOOP, TOO_LONG, TWICE, WRONG_TERMS,
                     lively_terms, random_terms)

SIGNS = "()\\ 0123456789-,/+x\n"
TERMS = [I, COPY, TWICE, CHAIN, LOOP, DEEP, (1,), (1000,), LONG, FORTY_ONE] + random_terms(171, 150, 40)


def text_of(term):
    """The text of a term, by its parts from the outside."""
    def inner(at):
        if term[at] > 0:
            return str(term[at]), at + 1
        if term[at] == -1:
            body, end = inner(at + 1)
            return "\\" + body, end
        function, behind = inner(at + 1)
        argument, end = inner(behind)
        return "(" + function + " " + argument + ")", end

    return inner(0)[0]


def goes_on(text, signs="(\\ )0123456789"):
    """Whether some text of a term, with however many parts, begins with the text.

    It reads from the left what is open: a part that is to come, or a sign behind one.
    """
    waiting = ["part"]
    number = ""
    for sign in text:
        if number:
            if sign.isdigit() and int(number + sign) <= 1000:
                number += sign
                continue
            number = ""
        if not waiting:
            return False
        wanted = waiting.pop()
        if wanted != "part":
            if sign != wanted:
                return False
        elif sign == "(":
            waiting += [")", "part", " ", "part"]
        elif sign == "\\":
            waiting += ["part"]
        elif sign in "123456789":
            number = sign
        else:
            return False
    return True


def parts_begun(text):
    """At which characters parts begin."""
    return [at for at, sign in enumerate(text)
            if sign in "(\\" or sign.isdigit() and (at == 0 or not text[at - 1].isdigit())]


class Checks(unittest.TestCase):

    def wrong(self, spot, read, text):
        with self.assertRaises(ParseError, msg=repr(text)[:200]) as caught:
            read(text)
        self.assertEqual(caught.exception.spot, spot, repr(text)[:200])

    def invalid(self, function, *given):
        with self.assertRaises(InvalidOperation, msg=repr(given)[:200]):
            function(*given)


class Examples(Checks):

    def test_the_examples(self):
        self.assertEqual(
            [write_term(TWICE), write_term((-1, -1, 0, 2, 0, 2, 1)), read_term("(\\1 7)"),
             write_row((3, -1)), write_row(()), read_row("-"), write_rows(((6,), ())),
             read_rows("1/3,11,5")],
            ['(\\(1 1) (\\1 \\1))', '\\\\(2 (2 1))', (0, -1, 1, 7), '3,-1', '-', (), '6/-',
             ((1,), (3, 11, 5))])
        self.assertEqual(module.MAX_TEXT, 20000)


class Terms(Checks):

    def test_written_and_read_back(self):
        texts = set()
        for term in TERMS:
            text = write_term(term)
            self.assertEqual(text, text_of(term))
            self.assertEqual(read_term(text), term)
            self.assertFalse(set(text) - set("()\\ 0123456789"))
            texts.add(text)
        self.assertEqual(len(texts), len(set(TERMS)))

    def test_400_parts_and_401(self):
        for term in [LONG, (0, 1) * 199 + (-1, 1), (0,) * 199 + (-1,) + (1000,) * 200]:
            self.assertEqual(len(term), 400)
            text = write_term(term)
            self.assertEqual(read_term(text), term)
        with self.assertRaises(InvalidTerm):
            write_term(TOO_LONG)
        self.wrong(400, read_term, "\\" * 400 + "1")
        self.wrong(400, read_term, "\\" * 401)
        self.wrong(400, read_term, "\\" * 400 + "x")
        self.wrong(400, read_term, "\\" * 400)
        self.wrong(399, read_term, "\\" * 399)
        # Calls that are open want parts still to come, which are counted where they begin.
        self.wrong(400, read_term, "(" * 401)
        self.wrong(399, read_term, "(" * 399)
        text = "(" * 200 + "1" + " 1)" * 200
        self.assertEqual(len(parts_begun(text)), 401)
        self.wrong(parts_begun(text)[400], read_term, text)
        self.wrong(parts_begun(text)[400], read_term, text[:parts_begun(text)[400] + 1])
        self.wrong(parts_begun(text)[400], read_term, text[:parts_begun(text)[400]])
        self.assertEqual(text[parts_begun(text)[400] - 1], " ")

    def test_variables_to_1000_and_above(self):
        self.assertEqual(read_term("1000"), (1000,))
        for text, spot in [("1001", 3), ("1010", 3), ("2000", 3), ("9999", 3), ("10000", 4), ("99999", 3),
                           ("1000 ", 4), ("(1001 1)", 4), ("(1 1001)", 6), ("12345", 3)]:
            self.wrong(spot, read_term, text)
        for number in (1, 9, 10, 99, 100, 999, 1000):
            self.assertEqual(read_term(str(number)), (number,))
            self.assertEqual(write_term((number,)), str(number))

    def test_zeros_ahead(self):
        for text, spot in [("0", 0), ("01", 0), ("00", 0), ("\\0", 1), ("(0 1)", 1), ("(1 01)", 3),
                           ("(01 1)", 1), ("\\\\07", 2)]:
            self.wrong(spot, read_term, text)

    def test_by_hand(self):
        for text, spot in [("", 0), ("(", 1), ("\\", 1), ("(1", 2), ("(1 ", 3), ("(1 1", 4), ("(1)", 2),
                           ("(1  1)", 3), ("( 1 1)", 1), ("(1 1 )", 4), ("(1 1 1)", 4), ("(1 1))", 5),
                           ("1 ", 1), (" 1", 0), ("1 1", 1), ("\\ 1", 1), ("\\1 ", 2), ("()", 1),
                           ("(1\t1)", 2), ("(1\n1)", 2), ("1\n", 1), ("-1", 0), ("+1", 0), ("x", 0),
                           ("\\(1 1) 1", 6), ("(\\1 7", 5), ("1)", 1), (")", 0), ("1(", 1), ("1\\", 1),
                           ("(1 1)1", 5), ("\u0661", 0), ("1\u0661", 1), ("\u00b2", 0)]:
            self.wrong(spot, read_term, text)

    def test_every_beginning(self):
        for term in TERMS[:60]:
            text = write_term(term)[:400]
            for cut in range(len(text)):
                if text[:cut] != text and not is_whole_text(text[:cut]):
                    self.wrong(cut, read_term, text[:cut])

    def test_one_character_changed_put_in_or_left_out(self):
        rng = random.Random(172)
        right = 0
        for term in TERMS[:9] + TERMS[10:90]:
            text = write_term(term)[:1000]
            for _ in range(25):
                at = rng.randrange(len(text))
                sign = rng.choice(SIGNS)
                spoilt = rng.choice([text[:at] + sign + text[at + 1:], text[:at] + sign + text[at:],
                                     text[:at] + text[at + 1:], text + sign])
                begun = parts_begun(spoilt)
                spot = next((k for k in range(len(spoilt)) if not goes_on(spoilt[:k + 1])
                             or len(begun) > 400 and begun[400] <= k), None)
                if spot is None and not is_whole_text(spoilt):
                    spot = len(spoilt)
                if spot is None:
                    self.assertEqual(text_of(read_term(spoilt)), spoilt)
                    right += 1
                else:
                    self.wrong(spot, read_term, spoilt)
        self.assertGreater(right, 50)

    def test_random_texts(self):
        rng = random.Random(173)
        for _ in range(3000):
            text = "".join(rng.choice("((\\\\  ))12305") for _ in range(rng.randint(0, 12)))
            spot = next((k for k in range(len(text)) if not goes_on(text[:k + 1])), None)
            if spot is None and is_whole_text(text):
                self.assertEqual(write_term(read_term(text)), text)
            else:
                self.wrong(len(text) if spot is None else spot, read_term, text)

    def test_what_is_no_term_or_no_text(self):
        for value in WRONG_TERMS:
            with self.assertRaises(InvalidTerm):
                write_term(value)
        for value in JUNK + [b"1", ["1"], 1, TWICE]:
            if not isinstance(value, str):
                self.wrong(None, read_term, value)
        self.wrong(None, read_term, "1" * 20001)
        self.wrong(None, read_term, "(" * 20001)
        self.wrong(3, read_term, "1" * 20000)
        self.wrong(400, read_term, "\\" * 20000)


def is_whole_text(text):
    """Whether the text is that of a term of at most 400 parts."""
    if not goes_on(text) or not text:
        return False
    return not goes_on(text + " ") and not goes_on(text + ")") and not goes_on(text + "(")


class Rows(Checks):

    def test_written_and_read_back(self):
        rows = [(), (0,), (-1,), (1, 2, 3), (-1, 0, 1), (10 ** 60 - 1,), (-10 ** 60 + 1, 7), TWICE, (0, 0),
                (5,) * 2000]
        for row in rows:
            text = write_row(row)
            self.assertEqual(text, ",".join(map(str, row)) or "-")
            self.assertEqual(read_row(text), row)
        tables = [(), ((),), ((), ()), ((1,), ()), ((), (1, -2), ()), ((1,), (2,)), tuple([(k,) for k in range(50)]),
                  ((1,) * 1000, (2,) * 1000), ((),) * 3000, names_along(LOOP, (0, 0, 0))[1]]
        for table in tables:
            text = write_rows(table)
            self.assertEqual(text, "/".join([",".join(map(str, row)) or "-" for row in table]) or "+")
            self.assertEqual(read_rows(text), table)

    def test_random_ones(self):
        rng = random.Random(174)
        for _ in range(400):
            table = tuple([tuple([rng.choice([0, 1, -1, 12, -305, 10 ** 30]) for _ in range(rng.randint(0, 4))])
                           for _ in range(rng.randint(0, 5))])
            self.assertEqual(read_rows(write_rows(table)), table)
            for row in table:
                self.assertEqual(read_row(write_row(row)), row)

    def test_2000_integers_and_2001(self):
        self.assertEqual(len(read_row(",".join(["1"] * 2000))), 2000)
        self.invalid(read_row, ",".join(["1"] * 2001))
        self.invalid(write_row, (1,) * 2001)
        self.invalid(write_rows, ((1,) * 1000, (2,) * 1001))
        self.invalid(read_rows, ",".join(["1"] * 1000) + "/" + ",".join(["1"] * 1001))
        self.invalid(read_rows, "/".join(["1"] * 2001))
        self.assertEqual(len(read_rows("/".join(["1"] * 2000))), 2000)
        self.assertEqual(read_rows("/".join(["-"] * 2001)), ((),) * 2001)
        # A wrong piece comes ahead of too many integers.
        self.wrong(4002, read_row, ",".join(["1"] * 2001) + ",x")
        self.wrong(4002, read_rows, "/".join(["1"] * 2001) + "/x")

    def test_integers_of_60_digits_and_61(self):
        for sign in ("", "-"):
            self.assertEqual(read_row(sign + "9" * 60), (int(sign + "9" * 60),))
            self.assertEqual(read_rows("1/" + sign + "9" * 60), ((1,), (int(sign + "9" * 60),)))
            for many in (61, 5000, 19990):
                self.invalid(read_row, sign + "9" * many)
                self.invalid(read_rows, "1/" + sign + "9" * many)
            self.wrong(62 + len(sign), read_row, sign + "9" * 61 + ",x")
        self.invalid(write_row, (10 ** 60,))
        self.invalid(write_rows, ((1,), (-10 ** 60,)))

    def test_rows_that_are_wrong(self):
        for text, spot in [("", 0), (",", 0), ("1,", 2), (",1", 0), ("1,,2", 2), ("01", 0), ("1,02", 2),
                           ("-0", 0), ("1,-0", 2), ("+1", 0), ("--1", 0), ("1-", 0), ("1 ", 0), (" 1", 0),
                           ("1, 2", 2), ("1,2 ,3", 2), ("x", 0), ("1,x,y", 2), ("-,1", 0), ("1,-", 2),
                           ("-,-", 0), ("12,345,6x", 7), ("+", 0), ("1/2", 0), ("1,2/3", 2), ("1\n", 0),
                           ("1.0", 0), ("1_0", 0), ("00", 0), ("-01", 0), ("- 1", 0), ("\u0661", 0),
                           ("1,\u00b2", 2), ("(1)", 0), ("1,-,2", 2), ("10,20,", 6)]:
            self.wrong(spot, read_row, text)

    def test_rows_of_rows_that_are_wrong(self):
        for text, spot in [("", 0), ("/", 0), ("1/", 2), ("/1", 0), ("1//2", 2), ("1/2/", 4), ("01/2", 0),
                           ("1/02", 2), ("1,/2", 2), ("1,2/x", 4), ("1/+", 2), ("+/1", 0), ("+,1", 0),
                           ("1,+", 2), ("1/-,2", 2), ("1,-/2", 2), ("-/-/", 4), ("-/-,-", 2), ("++", 0),
                           ("1/2 /3", 2), ("1/ 2", 2), ("12,34/5,6/7,x", 12), ("1/-0", 2), ("-1/--1", 3),
                           ("1\n/2", 0), ("1/2\n", 2), ("-/+/-", 2)]:
            self.wrong(spot, read_rows, text)
        self.assertEqual(read_rows("-/-"), ((), ()))
        self.assertEqual(read_rows("-/1,-2/-"), ((), (1, -2), ()))

    def test_one_character_changed_put_in_or_left_out(self):
        rng = random.Random(175)
        right = 0
        for _ in range(1500):
            table = tuple([tuple([rng.choice([0, 7, -1, 120]) for _ in range(rng.randint(0, 3))])
                           for _ in range(rng.randint(1, 3))])
            text = write_rows(table)
            at = rng.randrange(len(text))
            sign = rng.choice("0123-,/+ x")
            spoilt = rng.choice([text[:at] + sign + text[at + 1:], text[:at] + sign + text[at:],
                                 text[:at] + text[at + 1:], text[:at]])
            spot = first_wrong(spoilt, "/")
            if spot is None:
                self.assertEqual(write_rows(read_rows(spoilt)), spoilt)
                right += 1
            else:
                self.wrong(spot, read_rows, spoilt)
            spot = first_wrong(spoilt, None)
            if spot is None:
                self.assertEqual(write_row(read_row(spoilt)), spoilt)
            else:
                self.wrong(spot, read_row, spoilt)
        self.assertGreater(right, 200)

    def test_20000_characters_and_one_more(self):
        text = ",".join(["1" * 9] * 2000)
        self.assertEqual(len(text), 19999)
        self.assertEqual(len(read_row(text)), 2000)
        self.assertEqual(len(read_row("1" + text)), 2000)
        self.assertEqual(len(read_rows("1" + text)[0]), 2000)
        for read in (read_row, read_rows):
            self.wrong(None, read, "11" + text)
            self.wrong(None, read, "x" * 20001)
            self.wrong(0, read, "x" * 20000)

    def test_values_that_are_none(self):
        for value in JUNK + [0, 1, [1], [()], (True,), (1, None), (1, "2"), (1, (2,)), "1", {1: 2}]:
            if not (isinstance(value, tuple) and all(type(k) is int and abs(k) < 10 ** 60 for k in value)):
                self.invalid(write_row, value)
            if not (isinstance(value, tuple) and all(
                    isinstance(row, tuple) and all(type(k) is int and abs(k) < 10 ** 60 for k in row)
                    for row in value)):
                self.invalid(write_rows, value)
        for value in [((1,), [2]), ((1,), 2), ((True,),), ((1, (2,)),), [(1,)], ((1,), None), (("1",),)]:
            self.invalid(write_rows, value)
        for value in JUNK + [b"1", ["1"], 1, (1,)]:
            if not isinstance(value, str):
                self.wrong(None, read_row, value)
                self.wrong(None, read_rows, value)


def first_wrong(text, between):
    """The index of the first wrong piece of a row, or of rows with a sign between them."""
    if between and text == "+":
        return None
    ahead = 0
    for row in text.split(between) if between else [text]:
        at = ahead
        for piece in row.split(","):
            try:
                is_right = str(int(piece)) == piece
            except ValueError:
                is_right = row == "-"
            if not is_right:
                return at
            at += len(piece) + 1
        ahead += len(row) + 1
    return None


class Whole(Checks):

    def test_what_is_written_is_read_as_it_was(self):
        for term in TERMS + lively_terms(176, 60, 40):
            self.assertIs(is_term(term), True)
            self.assertEqual(read_term(write_term(term)), term)
            self.assertEqual(read_row(write_row(term)), term)
            try:
                names = names_along(term, ()) if len(term) <= 40 else ()
            except TooMany:
                continue
            for name in names:
                self.assertEqual(read_rows(write_rows(name)), name)


if __name__ == "__main__":
    unittest.main()
