"""Stage 15: the shell."""

import random
import unittest

from oncework.bench.bench import Bench
from oncework.errors import InvalidOperation, TooMany
from oncework.ground.steps import steps_of
from oncework.paths.walks import walk_of_name
from oncework.pieces.roots import last_form
from oncework.prose import shell as module
from oncework.prose.shell import Shell
from oncework.prose.texts import write_row, write_rows, write_term
from samples import CHAIN, I, JUNK, LOOP, NEW_ABOVE_400, RAISES_TOO_HIGH, RAISES_WHAT_DROPS, TWICE, lively_terms
from test_bench import worked

ALONE = ("term", "first", "steps", "history", "met", "last")
WITH_NUMBER = ("do", "piece", "undo", "name", "short", "walk")

# What the other lines must answer, by calls of the bench; deeds are done by a twin.
ANSWERS = {
    "term": lambda bench: write_term(bench.term_now),
    "first": lambda bench: write_term(bench.first_term),
    "steps": lambda bench: write_row(steps_of(bench.term_now)),
    "history": lambda bench: write_row(bench.history),
    "met": lambda bench: str(len(bench.pieces_met())),
    "last": lambda bench: write_term(last_form(bench.term_now)),
    "name": lambda bench, place: write_rows(bench.name_here(place)),
    "short": lambda bench, place: write_row(bench.shortest(place)),
    "walk": lambda bench, place: write_row(walk_of_name(bench.first_term, bench.name_here(place))),
    "do": lambda bench, place: "steps %d" % bench.twin().do(place),
    "piece": lambda bench, place: "steps %d" % bench.twin().do_piece(place),
    "run": lambda bench, order: "steps %d" % bench.twin().run(order),
    "undo": lambda bench, many: "deeds %d" % bench.twin().undo(deeds=many),
}


def state(bench):
    return bench.first_term, bench.deeds, bench.history, bench.term_now


class Checks(unittest.TestCase):

    def says(self, shell, line, answer):
        self.assertEqual(shell.say(line), answer, line)

    def no_effect(self, shell, bench, line, answer):
        """The line has this answer, changes nothing, and is counted."""
        before, said = state(bench), shell.said
        self.says(shell, line, answer)
        self.assertEqual(state(bench), before)
        self.assertEqual(shell.said, said + 1)


class Lines(Checks):

    def test_each_kind_of_line(self):
        bench = Bench(TWICE)
        shell = Shell(bench)
        for line, answer in [
                ("term", "(\\(1 1) (\\1 \\1))"), ("steps", "0,5"), ("history", "-"), ("met", "0"),
                ("name 5", "6"), ("walk 5", "7"), ("short 5", "5"), ("last", "\\1"),
                ("do 0", "steps 1"), ("term", "((\\1 \\1) (\\1 \\1))"), ("steps", "1,6"),
                ("first", "(\\(1 1) (\\1 \\1))"), ("history", "0"), ("met", "1"),
                ("name 6", "6"), ("short 6", "5"), ("walk 6", "7"),
                ("piece 6", "steps 3"), ("history", "0,1,3"), ("met", "2"), ("undo 1", "deeds 1"),
                ("run 0,0,0", "steps 4"), ("steps", "-"), ("term", "\\1"), ("history", "0,1,0,0"),
                ("met", "3"), ("undo 2", "deeds 0"), ("run 3", "steps 1"), ("history", "5")]:
            self.says(shell, line, answer)
        self.assertEqual(bench.deeds, (("run", (3,)),))

    def test_names_walks_and_histories_of_new_steps(self):
        bench = Bench(TWICE)
        shell = Shell(bench)
        self.assertEqual(shell.tell(("run 0,0", "name 0", "walk 0", "short 0")),
                         ("steps 2", "1/6/3,11,5,12,7,13,8", "4,-2,6,7,8,-7,9", "0,1,0"))

    def test_all_lines_against_calls_of_the_bench(self):
        rng = random.Random(181)
        kinds = {}
        for term in lively_terms(181, 250, 30):
            bench = worked(rng, term, 4)
            shell = Shell(bench)
            for _ in range(8):
                word = rng.choice(ALONE + WITH_NUMBER + ("run", "do", "piece"))
                given = ()
                if word in WITH_NUMBER:
                    here = steps_of(bench.term_now) or (0,)
                    given = (1,) if word == "undo" else (rng.choice(here),)
                elif word == "run":
                    given = (tuple([rng.randrange(7) for _ in range(rng.randint(1, 3))]),)
                line = " ".join([word] + [write_row(told) if isinstance(told, tuple) else str(told)
                                          for told in given])
                try:
                    wanted = ANSWERS[word](bench, *given)
                except TooMany as e:
                    wanted = "too many %d" % e.limit
                except LookupError:
                    wanted = "nothing to undo"
                except ValueError:
                    wanted = "invalid"
                self.says(shell, line, wanted)
                kinds[word] = kinds.get(word, 0) + (wanted != "invalid")
        self.assertEqual(set(kinds), set(ANSWERS))
        for many in kinds.values():
            self.assertGreater(many, 20)

    def test_deeds_change_the_bench_itself(self):
        bench = Bench(TWICE)
        one, other = Shell(bench), Shell(bench)
        one.say("do 0")
        self.assertEqual(bench.history, (0,))
        self.assertEqual(other.say("history"), "0")
        bench.do(1)
        self.assertEqual(one.say("history"), "0,1")
        self.assertEqual((one.said, other.said), (2, 1))

    def test_each_line_does_one_deed(self):
        bench = Bench(TWICE)
        shell = Shell(bench)
        for line, deed in [("do 0", ("do", 0)), ("piece 1", ("piece", 1)), ("run 4,4,4", ("run", (4,)))]:
            many = len(bench.deeds)
            shell.say(line)
            self.assertEqual(bench.deeds[many:], (deed,))

    def test_blanks_ahead_behind_and_between(self):
        for line in ["do 0", " do 0", "do 0 ", "do  0", "   do    0   "]:
            self.assertEqual(Shell(Bench(TWICE)).say(line), "steps 1")
        shell = Shell(Bench(TWICE))
        for line in ["term", "  term", "term  ", "  term  "]:
            self.assertEqual(shell.say(line), "(\\(1 1) (\\1 \\1))")
        self.assertEqual(shell.say("  run   5,0   "), "steps 2")

    def test_lines_without_pieces(self):
        bench = Bench(TWICE)
        bench.do(0)
        shell = Shell(bench)
        for line in ["", " ", "     ", " " * 2000]:
            self.no_effect(shell, bench, line, "")

    def test_equal_benches_answer_equally(self):
        rng = random.Random(182)
        for term in lively_terms(182, 60, 26):
            bench = worked(rng, term, 4)
            one, other = Shell(bench), Shell(bench.twin())
            for _ in range(10):
                line = rng.choice(["do 0", "piece 0", "run 1,1", "undo 1", "last", "met", "steps", "x",
                                   "history", "short 0", "name 0", "walk 0", "do %d" % rng.randrange(20)])
                self.assertEqual(one.say(line), other.say(line))


class NotDone(Checks):

    def test_wrong_at_the_first_piece_that_cannot_stand_there(self):
        bench = Bench(TWICE)
        bench.do(0)
        shell = Shell(bench)
        for line, spot in [
                ("x", 0), ("  x", 2), ("Do 1", 0), ("do1", 0), ("TERM", 0), ("undo1", 0), ("bench", 0),
                ("0", 0), ("-", 0), ("said", 0), ("joined 1", 0), ("x do 1", 0),
                ("do x", 3), ("do  x", 4), (" do   1x", 6), ("do 01", 3), ("do -0", 3), ("do +1", 3),
                ("do -", 3), ("do 1,6", 3), ("do 1 6", 5), ("do x 6", 3), ("do 1 x", 5), ("do 1 1 1", 5),
                ("piece x", 6), ("piece 1 1", 8), ("name x", 5), ("name 1 1", 7), ("short -", 6),
                ("walk 1,2", 5), ("walk 1 ,", 7), ("undo x", 5), ("undo 1 1", 7), ("undo +", 5),
                ("run x", 4), ("run 1,,2", 4), ("run 1, 2", 4), ("run 1 2", 6), ("run ,", 4), ("run 01", 4),
                ("run 1/2", 4), ("run +", 4), ("run -,1", 4), ("run - 1", 6), ("run 1,-", 4),
                ("term 1", 5), ("term term", 5), ("first  x y", 7), ("steps -", 6), ("history 0", 8),
                ("met 1", 4), ("last last", 5), ("\"do 1\"", 0), ("do\\1", 0), ("do ~", 3)]:
            self.no_effect(shell, bench, line, "wrong at %d" % spot)

    def test_a_piece_that_is_lacking(self):
        bench = Bench(TWICE)
        shell = Shell(bench)
        for line in ["do", "do ", "  do   ", "piece", "run", "run  ", "undo", "name", "short", "walk "]:
            self.no_effect(shell, bench, line, "wrong at %d" % len(line))
        self.no_effect(shell, bench, " " * 1998 + "do", "wrong at 2000")

    def test_too_many(self):
        bench = Bench(LOOP)
        shell = Shell(bench)
        for count in range(39):
            self.says(shell, "do 0", "steps %d" % (count + 1))
        self.says(shell, "run " + ",".join(["0"] * 21), "steps 60")
        for line in ["do 0", "piece 0", "run 7"]:
            self.no_effect(shell, bench, line, "too many 40")
        self.says(shell, "undo 2", "deeds 38")
        self.says(shell, "run " + ",".join(["0"] * 22), "steps 60")
        self.no_effect(shell, bench, "do 0", "too many 60")
        self.no_effect(shell, bench, "piece 0", "too many 2000")
        self.no_effect(shell, bench, "last", "too many 60")
        self.no_effect(shell, bench, "name 0", "too many 2000")
        self.no_effect(shell, bench, "met", "too many 2000")
        self.no_effect(shell, bench, "walk 0", "too many 2000")
        self.says(shell, "short 0", ",".join(["0"] * 61))
        self.says(shell, "undo 1", "deeds 38")
        bench.undo(deeds=28)
        self.assertEqual(len(bench), 10)
        self.no_effect(shell, bench, "walk 0", "too many 400")
        shell = Shell(Bench(RAISES_TOO_HIGH))
        for line in ["do 0", "piece 0", "run 1", "last"]:
            self.says(shell, line, "too many 1000")
        shell = Shell(Bench(NEW_ABOVE_400))
        for line in ["run 0,0", "last"]:
            self.says(shell, line, "too many 400")
        shell = Shell(Bench((0, -1, 1) + RAISES_WHAT_DROPS))
        self.assertEqual(shell.tell(("do 7", "do 3", "short 0")), ("steps 1", "steps 2", "too many 1000"))

    def test_nothing_to_undo(self):
        bench = Bench(TWICE)
        shell = Shell(bench)
        self.no_effect(shell, bench, "undo 1", "nothing to undo")
        shell.say("do 0")
        self.no_effect(shell, bench, "undo 2", "nothing to undo")
        self.no_effect(shell, bench, "undo " + "9" * 60, "nothing to undo")
        self.says(shell, "undo 1", "deeds 0")

    def test_invalid(self):
        bench = Bench(TWICE)
        shell = Shell(bench)
        for line in ["do 1", "do -1", "do 10", "piece 1", "name 1", "short -7", "walk 2", "undo 0", "undo -1",
                     "run -", "run -1", "run 0,-1", "run " + ",".join(["0"] * 61),
                     "do " + "9" * 60, "do " + "9" * 61, "do -" + "9" * 1900, "undo " + "9" * 61,
                     "undo -" + "9" * 70, "name " + "9" * 1000, "run " + "9" * 61, "run 0," + "9" * 1900]:
            self.no_effect(shell, bench, line, "invalid")
        shell = Shell(Bench((1,)))
        for line in ["do 0", "run 0", "piece 0"]:
            self.says(shell, line, "invalid")
        self.assertEqual(shell.tell(("steps", "last", "met", "history")), ("-", "1", "0", "-"))

    def test_integers_below_0_and_great_ones_can_stand_in_an_order(self):
        shell = Shell(Bench(TWICE))
        self.says(shell, "run -5", "invalid")
        self.says(shell, "run " + "9" * 60, "steps 1")


class Kept(Checks):

    def test_lines_are_counted(self):
        bench = Bench(TWICE)
        shell = Shell(bench)
        self.assertEqual((shell.said, str(shell)), (0, "shell, 0 lines said"))
        for count, line in enumerate(["", "do 0", "x", "do", "do 0", "undo 9", "undo 0", " ", "term"]):
            shell.say(line)
            self.assertEqual(shell.said, count + 1)
            self.assertEqual(str(shell), "shell, %d lines said" % (count + 1))
        shell.tell(("", "x", "do 1"))
        self.assertEqual(shell.said, 12)
        self.assertEqual(shell.tell(()), ())
        self.assertEqual(shell.said, 12)
        with self.assertRaises(AttributeError):
            shell.said = 1

    def test_tell(self):
        shell = Shell(Bench(TWICE))
        self.assertEqual(shell.tell(("do 0", "", "piece 1", "history", "undo 5")),
                         ("steps 1", "", "steps 3", "0,1,3", "nothing to undo"))
        self.assertEqual(len(shell.tell(("met",) * 40)), 40)
        self.assertEqual(shell.said, 45)
        self.assertEqual((module.MAX_LINE, module.MOST_LINES), (2000, 40))

    def test_40_lines_and_41(self):
        bench = Bench(LOOP)
        shell = Shell(bench)
        with self.assertRaises(InvalidOperation):
            shell.tell(("do 0",) * 41)
        self.assertEqual((shell.said, len(bench)), (0, 0))
        self.assertEqual(shell.tell(("do 0",) * 40)[-1], "steps 40")

    def test_a_wrong_line_is_refused_ahead_of_all(self):
        bench = Bench(TWICE)
        shell = Shell(bench)
        for wrong in [None, 1, "x" * 2001, "do\t0", "\n", ["do 0"], ("do 0",), True, "\x7f", "\u00e9"]:
            for lines in [("do 0", wrong), (wrong, "do 0"), ("do 0", "do 0", wrong, "x")]:
                with self.assertRaises(InvalidOperation):
                    shell.tell(lines)
        for lines in [["do 0"], "do 0", None, 1, {"do 0": 1}, True]:
            with self.assertRaises(InvalidOperation):
                shell.tell(lines)
        self.assertEqual((shell.said, bench.history), (0, ()))

    def test_lines_of_2000_characters_and_2001(self):
        bench = Bench(TWICE)
        shell = Shell(bench)
        self.says(shell, "do 0" + " " * 1996, "steps 1")
        for line in ["do 1" + " " * 1997, "x" * 2001, " " * 20000]:
            with self.assertRaises(InvalidOperation):
                shell.say(line)
        self.assertEqual((shell.said, bench.history), (1, (0,)))

    def test_lines_that_are_none(self):
        bench = Bench(TWICE)
        shell = Shell(bench)
        for line in JUNK + [0, b"do 0", ["do 0"], "do\t0", "do 0\n", "\rterm", "\x00", "\x1f", "\x7f", "\u00e9",
                            "do \u0661"]:
            if not isinstance(line, str) or line not in ("", "0", "(0, 1, 1)"):
                with self.assertRaises(InvalidOperation, msg=repr(line)[:80]):
                    shell.say(line)
        self.assertEqual((shell.said, bench.history), (0, ()))
        self.says(shell, "(0, 1, 1)", "wrong at 0")
        self.says(shell, "~ !", "wrong at 0")

    def test_what_is_no_bench(self):
        for value in JUNK + [TWICE, Bench, Shell(Bench(I)), ()]:
            with self.assertRaises(InvalidOperation):
                Shell(value)

    def test_a_shell_is_not_iterated_over(self):
        shell = Shell(Bench(CHAIN))
        with self.assertRaises(TypeError):
            iter(shell)
        self.assertIs(shell == shell, True)
        self.assertIs(shell == 1, False)


if __name__ == "__main__":
    unittest.main()
