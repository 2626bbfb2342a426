"""The interface of callbinds/errors.py: what stands under what, and the values."""

import unittest

from callbinds import errors

STRAIGHT = ["NoName", "TooMany", "NoChange", "NoText", "NoRow", "Unknown", "BadOrder", "Twice", "NoDefault", "Misfit"]
MISFITS = ["Doubled", "Over", "Barred", "Again", "Strange", "Lacking"]
OF_A_TEXT = ["CallError", "NoName", "TooMany", "NoChange", "NoText", "NoRow", "Unknown"]
OF_A_NUMBER = ["NoDefault", "Misfit"] + MISFITS
ALL = ["CallError"] + STRAIGHT + MISFITS


def above(word):
    """All classes of errors.py that the class called so stands under, itself too."""
    if word == "CallError":
        return {"CallError"}
    if word in STRAIGHT:
        return {"CallError", word}
    return {"CallError", "Misfit", word}


class Errors(unittest.TestCase):
    def test_what_stands_under_what(self):
        for word in ALL:
            for other in ALL:
                under = issubclass(getattr(errors, word), getattr(errors, other))
                self.assertIs(under, other in above(word), (word, other))

    def test_the_classes_straight_above(self):
        self.assertEqual(errors.CallError.__bases__, (ValueError,))
        for word in STRAIGHT:
            self.assertEqual(getattr(errors, word).__bases__, (errors.CallError,), word)
        for word in MISFITS:
            self.assertEqual(getattr(errors, word).__bases__, (errors.Misfit,), word)

    def test_none_stands_under_another_error_of_python(self):
        for word in ALL:
            for other in [TypeError, LookupError, KeyError, ArithmeticError, RuntimeError, UnicodeError]:
                self.assertFalse(issubclass(getattr(errors, word), other), (word, other))

    def test_made_of_a_text(self):
        for word in OF_A_TEXT:
            error = getattr(errors, word)("some words")
            self.assertEqual(str(error), "some words")
            for value in ["at", "name", "number"]:
                self.assertFalse(hasattr(error, value), (word, value))

    def test_made_of_a_number(self):
        for word in OF_A_NUMBER:
            for number in [0, 3, 59, 10 ** 59]:
                error = getattr(errors, word)(number)
                self.assertEqual(error.number, number)
                self.assertFalse(hasattr(error, "at"), word)
                self.assertFalse(hasattr(error, "name"), word)

    def test_at_and_name(self):
        self.assertEqual(errors.BadOrder(0).at, 0)
        self.assertEqual(errors.BadOrder(23).at, 23)
        self.assertEqual(errors.Twice("ab").name, "ab")
        self.assertFalse(hasattr(errors.BadOrder(1), "number"))
        self.assertFalse(hasattr(errors.Twice("a"), "number"))

    def test_raised_and_taken(self):
        for word in ALL:
            error = getattr(errors, word)("a" if word in OF_A_TEXT or word == "Twice" else 2)
            for other in above(word):
                with self.assertRaises(getattr(errors, other)) as taken:
                    raise error
                self.assertIs(taken.exception, error)
            with self.assertRaises(ValueError):
                raise error


if __name__ == "__main__":
    unittest.main()
