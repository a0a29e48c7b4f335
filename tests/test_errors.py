"""[61], [5], [3]: the errors."""

import unittest

from levelwalks import errors
from levelwalks.errors import WalkError

PARAMETERS = {
    "BadSizes": None,
    "BadForm": None,
    "OutOfRange": "at",
    "TooLarge": "at",
    "NoWalk": "level",
    "NoLocate": "level",
    "BadText": "line",
    "BadExpression": "at",
    "BadNumber": "n",
    "RepeatedLetter": "letter",
    "NotAnAccess": None,
    "NotAnExpression": None,
    "NoTable": "name",
    "TableExists": "name",
    "RankClash": "name",
    "SizeClash": "letter",
    "Illegal": "place",
    "Inconsistent": None,
    "NotPolynomial": None,
    "NotComparable": None,
    "Ring": "steps",
    "Parted": "verdict",
    "NoBetter": "verdict",
    "KeptTable": "name",
    "NotKeepable": None,
    "KeepRing": "name",
    "KeptFailed": "name",
}


class AnyVerdict:
    """Stands for a verdict: an object that is equal to itself only, and is not true."""

    def __bool__(self):
        return False


WORTHS = (
    0, 1, -1, 7, 10 ** 60, -(10 ** 5000),
    "", "a", "tensor", "two words\n", "{at}",
    (), (0,), (1, 2, 3), (-1, 9), ("a",), ("i", 0, "j"), ((),), (("i", 0, "k"), ("k", 1, "i")),
    ((1, (2, ("x", ()))), -5),
    AnyVerdict(),
)


def made(error, worth):
    return getattr(errors, error)(worth)


def made_by_keyword(error, worth):
    return getattr(errors, error)(**{PARAMETERS[error]: worth})


def one_of_each():
    return {
        name: getattr(errors, name)() if parameter is None else made(name, (1,))
        for name, parameter in PARAMETERS.items()
    }


class ErrorsTest(unittest.TestCase):
    def test_walk_error_is_a_direct_value_error(self):
        self.assertEqual(WalkError.__bases__, (ValueError,))
        self.assertIsInstance(WalkError("any words"), ValueError)

    def test_each_class_is_a_direct_walk_error_and_defined_here(self):
        for name in PARAMETERS:
            with self.subTest(name):
                kind = getattr(errors, name)
                self.assertEqual(kind.__name__, name)
                self.assertEqual(kind.__bases__, (WalkError,))
                self.assertEqual(kind.__module__, "levelwalks.errors")

    def test_each_error_is_of_no_other_class_of_the_package(self):
        for name, error in one_of_each().items():
            self.assertIsInstance(error, WalkError)
            self.assertIsInstance(error, ValueError)
            for other in PARAMETERS:
                with self.subTest(name, other=other):
                    self.assertEqual(isinstance(error, getattr(errors, other)), name == other)

    def test_there_are_no_two_names_for_one_class(self):
        self.assertEqual(len({getattr(errors, name) for name in PARAMETERS}), 27)

    def test_errors_without_parameters(self):
        for name, parameter in PARAMETERS.items():
            if parameter is None:
                with self.subTest(name):
                    with self.assertRaises(WalkError) as caught:
                        raise getattr(errors, name)()
                    self.assertEqual(type(caught.exception).__name__, name)

    def test_the_attribute_is_what_was_passed_by_position(self):
        for name, parameter in PARAMETERS.items():
            if parameter is not None:
                for number, worth in enumerate(WORTHS):
                    with self.subTest(name, number=number):
                        found = getattr(made(name, worth), parameter)
                        self.assertEqual(found, worth)
                        self.assertIs(type(found), type(worth))

    def test_the_attribute_is_what_was_passed_by_keyword(self):
        for name, parameter in PARAMETERS.items():
            if parameter is not None:
                for number, worth in enumerate(WORTHS):
                    with self.subTest(name, number=number):
                        found = getattr(made_by_keyword(name, worth), parameter)
                        self.assertEqual(found, worth)
                        self.assertIs(type(found), type(worth))

    def test_a_verdict_is_the_same_object(self):
        verdict = AnyVerdict()
        for name in ("Parted", "NoBetter"):
            self.assertIs(made(name, verdict).verdict, verdict)
            self.assertIs(made_by_keyword(name, verdict).verdict, verdict)

    def test_the_attribute_is_there_when_it_was_raised(self):
        for name, parameter in PARAMETERS.items():
            if parameter is not None:
                with self.subTest(name):
                    with self.assertRaises(getattr(errors, name)) as caught:
                        raise made(name, (4, 2))
                    self.assertEqual(getattr(caught.exception, parameter), (4, 2))

    def test_two_errors_do_not_share_their_attributes(self):
        for name, parameter in PARAMETERS.items():
            if parameter is not None:
                first, second = made(name, 1), made(name, 2)
                self.assertEqual((getattr(first, parameter), getattr(second, parameter)), (1, 2))


if __name__ == "__main__":
    unittest.main()
