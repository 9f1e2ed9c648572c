"""The errors: what each derives from, and what it keeps."""

import unittest

from oncework import errors

UNDER_WORK_ERROR = ["InvalidTerm", "InvalidPlace", "InvalidHistory", "InvalidLot", "InvalidName",
                    "InvalidWalk", "InvalidOperation", "ParseError"]
UNDER_OTHERS = {"WorkError": ValueError, "InvalidNumber": IndexError, "UnknownName": KeyError,
                "NothingToUndo": LookupError, "TooMany": OverflowError, "Refused": ArithmeticError}
KEPT = {"ParseError": "spot", "InvalidNumber": "given", "UnknownName": "asked",
        "NothingToUndo": "wanted", "TooMany": "limit", "Refused": "reason"}
VALUES = [None, True, False, 0, -1, 10 ** 219, "", "text", (), (1, (2,)), [1, [2]], {"a": {}},
          errors.InvalidTerm("x")]


class Derivation(unittest.TestCase):

    def test_direct_base_of_each_error(self):
        for name in UNDER_WORK_ERROR:
            self.assertEqual(getattr(errors, name).__bases__, (errors.WorkError,), name)
        for name, base in UNDER_OTHERS.items():
            self.assertEqual(getattr(errors, name).__bases__, (base,), name)

    def test_no_other_error_is_caught_as_a_work_error(self):
        for name in UNDER_OTHERS:
            if name != "WorkError":
                self.assertFalse(issubclass(getattr(errors, name), errors.WorkError), name)

    def test_each_error_is_defined_in_its_module(self):
        for name in UNDER_WORK_ERROR + list(UNDER_OTHERS):
            self.assertEqual(getattr(errors, name).__module__, "oncework.errors")
            self.assertEqual(getattr(errors, name).__name__, name)


class Keeping(unittest.TestCase):

    def test_any_value_is_kept_in_the_told_attribute(self):
        for name, attribute in KEPT.items():
            for value in VALUES:
                error = getattr(errors, name)(value)
                self.assertIs(getattr(error, attribute), value, name)

    def test_what_is_kept_reaches_the_one_who_catches(self):
        for name, attribute in KEPT.items():
            for value in VALUES:
                with self.assertRaises(getattr(errors, name)) as caught:
                    raise getattr(errors, name)(value)
                self.assertIs(getattr(caught.exception, attribute), value)

    def test_one_value_is_wanted(self):
        for name in KEPT:
            for given in [(), (1, 2)]:
                with self.assertRaises(TypeError):
                    getattr(errors, name)(*given)

    def test_the_others_take_a_message_or_any_one_value(self):
        for name in UNDER_WORK_ERROR + ["WorkError"]:
            if name not in KEPT:
                self.assertEqual(str(getattr(errors, name)("a message")), "a message")
                for value in VALUES:
                    self.assertIsInstance(getattr(errors, name)(value), errors.WorkError)


if __name__ == "__main__":
    unittest.main()
