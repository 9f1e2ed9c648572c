"""Stage 14: the log of a bench."""

import random
import unittest

from oncework.bench.bench import Bench
from oncework.bench.log import log_text, read_log
from oncework.errors import InvalidOperation, ParseError, TooMany
from samples import CHAIN, FORTY, FORTY_ONE, I, JUNK, LOOP, RAISES_TOO_HIGH, TWICE, lively_terms
from test_bench import worked

KINDS = ("bench 0,-1,0,1,1,0,-1,1,-1,1\ndo 0\nrun 1000000000000000000001,0\nrun 3\n")


class Checks(unittest.TestCase):

    def wrong(self, spot, text):
        with self.assertRaises(ParseError, msg=repr(text)) as caught:
            read_log(text)
        self.assertEqual(caught.exception.spot, spot, text)


class Written(Checks):

    def test_all_kinds_of_deeds(self):
        bench = Bench((0, -1, 1, 0, -1, 0, 1, 1, 0, -1, 1, 12))
        self.assertEqual(log_text(bench), "bench 0,-1,1,0,-1,0,1,1,0,-1,1,12\n")
        bench.do(3)
        bench.do_piece(4)
        bench.run((10 ** 20, 1, 1, 1))
        self.assertEqual(log_text(bench), "bench 0,-1,1,0,-1,0,1,1,0,-1,1,12\n"
                                          "do 3\npiece 4\nrun 100000000000000000000\n")
        bench.undo(deeds=2)
        self.assertEqual(log_text(bench), "bench 0,-1,1,0,-1,0,1,1,0,-1,1,12\ndo 3\n")

    def test_what_is_no_bench(self):
        for value in JUNK + [TWICE, "bench 1\n", Bench]:
            with self.assertRaises(InvalidOperation):
                log_text(value)

    def test_read_back(self):
        rng = random.Random(161)
        words = set()
        for term in lively_terms(161, 300, 30) + [(1,), I, FORTY]:
            bench = worked(rng, term, 8)
            text = log_text(bench)
            again, many = read_log(text)
            self.assertEqual(again, bench)
            self.assertEqual((again.history, again.term_now), (bench.history, bench.term_now))
            self.assertEqual(many, len(text))
            self.assertIsNot(again, bench)
            words |= {line.split(" ")[0] for line in text.split("\n")}
        self.assertEqual(words, {"bench", "do", "piece", "run", ""})

    def test_40_deeds_and_60_steps(self):
        bench = Bench(LOOP)
        for _ in range(39):
            bench.do(0)
        bench.run(tuple(range(10 ** 59, 10 ** 59 + 21)))
        text = log_text(bench)
        self.assertEqual(read_log(text), (bench, len(text)))
        self.wrong(41, text + "do 0\n")
        self.wrong(2, "bench 0,-1,0,1,1,-1,0,1,1\nrun " + ",".join(["0"] * 60) + "\ndo 0\n")


class Cut(Checks):

    def test_at_every_place(self):
        rng = random.Random(162)
        for term in lively_terms(162, 40, 24):
            bench = worked(rng, term, 6)
            text = log_text(bench)
            for cut in range(len(text) + 1):
                lines = text[:cut].count("\n")
                if lines == 0:
                    self.wrong(0, text[:cut])
                    continue
                again, many = read_log(text[:cut])
                self.assertEqual(many, text[:cut].rfind("\n") + 1)
                wanted = bench.twin()
                left = len(bench.deeds) - (lines - 1)
                if left > 0:
                    wanted.undo(deeds=left)
                self.assertEqual(again, wanted)

    def test_what_stands_behind_the_last_newline_is_left_out(self):
        for behind in ["x", "do 0", "do  0", "\tdo", "bench 1", " "]:
            bench, many = read_log("bench 0,-1,1,2\n" + behind)
            self.assertEqual((bench, many), (Bench((0, -1, 1, 2)), 15))
        self.assertEqual(read_log("bench 0,-1,1,2\ndo 0\ndo 0"), (read_log("bench 0,-1,1,2\ndo 0\n")[0], 20))


class Spoilt(Checks):

    def test_no_line(self):
        for text in ["", "bench 1", "do 0", " "]:
            self.wrong(0, text)

    def test_what_is_no_string(self):
        for value in JUNK + [0, b"bench 1\n", ["bench 1\n"], Bench(TWICE)]:
            if not isinstance(value, str):
                self.wrong(None, value)

    def test_the_first_line(self):
        self.assertEqual(read_log("bench 1\n"), (Bench((1,)), 8))
        for line in ["", " ", "bench", "bench ", "bench  1", " bench 1", "bench 1 ", "Bench 1", "benc 1",
                     "bench 01", "bench +1", "bench -0", "bench 0", "bench 1,", "bench ,1", "bench 1,2",
                     "bench -", "bench +", "bench 0,1", "bench 1001", "bench 0, 1,1", "bench 0 1 1",
                     "bench 0,1,1,", "bench -1,-1", "bench -2,1", "bench x", "bench\t1", "bench 1\r",
                     "do 0", "bench 1/1", "bench 1.0", "bench 1_0", "bench (1)",
                     "bench " + "9" * 61, "bench " + "9" * 5000,
                     "bench " + ",".join(map(str, FORTY_ONE))]:
            self.wrong(0, line + "\n")
            self.wrong(0, line + "\ndo 0\n")
        self.wrong(0, "\nbench 1\n")
        bench, _ = read_log("bench " + ",".join(map(str, FORTY)) + "\n")
        self.assertEqual(bench, Bench(FORTY))

    def test_each_further_line(self):
        head = "bench 0,-1,0,1,1,0,-1,1,-1,1\n"
        for line in ["", " ", "do", "do ", "do  0", " do 0", "do 0 ", "do 00", "do +0", "do -0", "do 05",
                     "Do 0", "done 0", "undo 1", "do 1", "do -1", "do 10", "do x", "do 0,5", "do -",
                     "do 0 5", "do\t0", "piece", "piece 1", "piece 0,5", "piece  0", "piece 00", "pieces 0",
                     "piece -", "run", "run ", "run -", "run -1", "run 0,-1", "run 00", "run 0,", "run ,0",
                     "run 0,,0", "run 0 0", "run 0, 0", "run x", "run +", "run 0/0", "bench 1", "0", "do",
                     "run " + ",".join(["0"] * 61), "run " + "9" * 61, "run 0," + "9" * 61,
                     "run " + "9" * 6000, "do " + "9" * 61, "do " + "9" * 6000, "do 0\r", "\rdo 0",
                     # The last integers of these orders do no step.
                     "run 0,0,0,0,0", "run 1,0,0,0"]:
            self.wrong(1, head + line + "\n")
            self.wrong(1, head + line + "\ndo 0\n")
            self.wrong(2, head + "do 5\n" + line + "\n")
        for line in ["do 0", "do 5", "piece 0", "piece 5", "run 0", "run 0,0,0,0", "run 1,0,0", "run 77"]:
            bench, many = read_log(head + line + "\n")
            self.assertEqual((log_text(bench), many), (head + line + "\n", len(head + line) + 1))

    def test_an_order_where_there_is_no_step(self):
        self.wrong(1, "bench 1\nrun 0\n")
        self.wrong(2, "bench 0,-1,1,2\ndo 0\nrun 0\n")
        self.wrong(1, "bench 0,-1,1,2\nrun 0,0\n")

    def test_a_deed_whose_call_raises_an_error(self):
        text = "bench " + ",".join(map(str, RAISES_TOO_HIGH)) + "\n"
        for line in ["do 0", "piece 0", "run 0"]:
            self.wrong(1, text + line + "\n")
            self.wrong(1, text + line + "\nx\n")

    def test_the_first_line_that_is_wrong(self):
        self.wrong(2, "bench 0,-1,1,2\ndo 0\nx\ny\n")
        self.wrong(0, "x\ny\n")
        self.wrong(1, "bench 0,-1,1,2\n\n\n")
        self.wrong(1, "bench 0,-1,1,2\n\ndo 0\n")

    def test_each_character_spoilt(self):
        text = log_text(read_log(KINDS)[0])
        self.assertEqual(text, KINDS)
        for at, sign in enumerate(text):
            for put in ["", " ", "0", "-", ",", "x", sign + " ", sign + "0" if sign in ", " else sign + "\n"]:
                spoilt = text[:at] + put + text[at + 1:]
                if spoilt == text:
                    continue
                try:
                    bench, many = read_log(spoilt)
                except ParseError as e:
                    self.assertIsInstance(e.spot, int)
                    self.assertLessEqual(text[:at].count("\n"), e.spot)
                else:
                    self.assertEqual(log_text(bench), spoilt[:many])

    def test_too_large_things_are_wrong_lines_alone(self):
        try:
            read_log("bench 0,-1,0,1,1,-1,0,1,1\n" + "do 0\n" * 60)
        except ParseError as e:
            self.assertEqual(e.spot, 41)
        except TooMany:
            self.fail("an error of the deed itself")
        self.assertEqual(len(read_log("bench " + ",".join(map(str, CHAIN)) + "\ndo 0\ndo 0\n")[0]), 2)


if __name__ == "__main__":
    unittest.main()
