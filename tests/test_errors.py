"""The errors: their bases, and what they keep."""

import unittest

from tangentrows import errors

DIRECT = ("InvalidForm", "InvalidLine", "InvalidPoint", "InvalidLot", "InvalidMarks", "InvalidPair", "InvalidRow",
          "InvalidTable", "InvalidWeb", "InvalidPromise", "InvalidOperation", "ParseError")
APART = (("InvalidNumber", "given", IndexError), ("UnknownName", "wanted", KeyError), ("TooMany", "most", OverflowError),
         ("Refused", "reason", ArithmeticError), ("NothingToUndo", "steps", LookupError))


class ErrorTest(unittest.TestCase):
    def test_the_base(self):
        self.assertEqual(errors.TangentError.__bases__, (ValueError,))
        self.assertEqual(str(errors.TangentError("told")), "told")

    def test_direct_errors(self):
        for name in DIRECT:
            with self.subTest(name):
                self.assertEqual(getattr(errors, name).__bases__, (errors.TangentError,))

    def test_messages(self):
        for name in DIRECT[:-1]:
            with self.subTest(name):
                error = getattr(errors, name)("some message")
                self.assertEqual(error.args, ("some message",))

    def test_errors_that_keep(self):
        values = (None, True, -7, 10 ** 99, "x", "", (), ("fall", (1, 0, 0)), [1], {"a": 1}, errors.InvalidForm("a"))
        for name, attribute, base in APART:
            with self.subTest(name):
                self.assertEqual(getattr(errors, name).__bases__, (base,))
                for value in values:
                    self.assertIs(getattr(getattr(errors, name)(value), attribute), value)
        for value in values:
            self.assertIs(errors.ParseError(value).index, value)

    def test_no_further_class_between(self):
        for name, _, base in APART:
            self.assertFalse(issubclass(getattr(errors, name), errors.TangentError))
        for name in DIRECT:
            for other in DIRECT:
                if name != other:
                    self.assertFalse(issubclass(getattr(errors, name), getattr(errors, other)))

    def test_they_are_caught_by_their_bases(self):
        for name, attribute, base in APART:
            try:
                raise getattr(errors, name)(("word", 1))
            except base as error:
                self.assertEqual(getattr(error, attribute), ("word", 1))
        with self.assertRaises(ValueError):
            raise errors.ParseError(3)


if __name__ == "__main__":
    unittest.main()
