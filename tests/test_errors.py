"""[0.19]: the error classes, what they come of and what they keep."""

import copy
import unittest

from truenames import errors
from tests.helper import Case

WITH_MESSAGE = (
    "InvalidMove", "InvalidGroup", "InvalidTable", "InvalidWord", "InvalidVector", "InvalidDouble",
    "InvalidRing", "InvalidStrings", "InvalidWeights", "InvalidOperation",
)
KEEPING = {
    "ParseError": ("spot", errors.NamesError),
    "InvalidNumber": ("value", IndexError),
    "UnknownName": ("name", KeyError),
    "TooMany": ("limit", OverflowError),
    "Refused": ("reason", ArithmeticError),
    "NothingToUndo": ("times", LookupError),
}


class TestErrors(Case):

    def test_bases(self):
        self.assertEqual(errors.NamesError.__bases__, (ValueError,))
        for name in WITH_MESSAGE:
            self.assertEqual(getattr(errors, name).__bases__, (errors.NamesError,), name)
        for name, (_, base) in KEEPING.items():
            self.assertEqual(getattr(errors, name).__bases__, (base,), name)

    def test_no_class_beside_the_told_ones(self):
        told = {"NamesError", *WITH_MESSAGE, *KEEPING}
        classes = {name for name, value in vars(errors).items() if isinstance(value, type)}
        self.assertEqual(classes, told)

    def test_messages(self):
        for name in ("NamesError",) + WITH_MESSAGE:
            self.assertEqual(str(getattr(errors, name)("what is wrong")), "what is wrong")

    def test_what_is_kept(self):
        rows = [1, 2]
        values = [None, True, 0, -1, 10 ** 5000, "text", (), ("left", 0, 0, 1), rows, {"a": rows}, object()]
        for name, (attribute, _) in KEEPING.items():
            for value in values:
                error = getattr(errors, name)(value)
                self.assertIs(getattr(error, attribute), value)
                self.assertIsInstance(str(error), str)
                self.assertIs(getattr(copy.copy(error), attribute), value)

    def test_they_take_just_one_argument(self):
        for name in KEEPING:
            with self.assertRaises(TypeError):
                getattr(errors, name)()
            with self.assertRaises(TypeError):
                getattr(errors, name)(1, 2)

    def test_they_can_be_caught_by_their_bases(self):
        with self.assertRaises(ValueError):
            raise errors.ParseError(3)
        with self.assertRaises(LookupError):
            raise errors.InvalidNumber(3)
        with self.assertRaises(LookupError):
            raise errors.UnknownName("a")
        with self.assertRaises(ArithmeticError):
            raise errors.TooMany(3)


if __name__ == "__main__":
    unittest.main()
