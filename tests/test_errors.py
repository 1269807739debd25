import unittest

from bellferry import errors
from bellferry.errors import (
    FerryError, NoCode, NoFerry, NoName, NoStep, NoText, NoWidth, NoWord, TooMany, Twice, Unknown,
)

TEN = [NoName, Twice, NoWidth, NoWord, TooMany, Unknown, NoFerry, NoStep, NoCode, NoText]


class ErrorsTest(unittest.TestCase):
    def test_ferry_error_stands_under_value_error(self):
        self.assertEqual(FerryError.__bases__, (ValueError,))

    def test_each_of_the_ten_stands_right_under_ferry_error(self):
        for one in TEN:
            with self.subTest(one=one.__name__):
                self.assertEqual(one.__bases__, (FerryError,))

    def test_none_of_the_ten_stands_under_another_one(self):
        for one in TEN:
            for other in TEN:
                with self.subTest(one=one.__name__, other=other.__name__):
                    self.assertEqual(issubclass(one, other), one is other)

    def test_ferry_error_stands_under_none_of_the_ten(self):
        for one in TEN:
            self.assertFalse(issubclass(FerryError, one))

    def test_they_are_eleven_classes_under_their_own_names(self):
        names = [
            "FerryError", "NoName", "Twice", "NoWidth", "NoWord", "TooMany",
            "Unknown", "NoFerry", "NoStep", "NoCode", "NoText",
        ]
        self.assertEqual([one.__name__ for one in [FerryError] + TEN], names)
        self.assertEqual(len({id(getattr(errors, name)) for name in names}), 11)

    def test_each_is_raised_with_words_and_taken_as_any_refusal(self):
        for one in TEN:
            for taken in (one, FerryError, ValueError):
                with self.subTest(one=one.__name__, taken=taken.__name__):
                    with self.assertRaises(taken) as held:
                        raise one("some words")
                    self.assertEqual(str(held.exception), "some words")

    def test_one_is_not_taken_as_another_one(self):
        with self.assertRaises(NoCode):
            try:
                raise NoCode("a code")
            except (NoName, Twice, NoWidth, NoWord, TooMany, Unknown, NoFerry, NoStep, NoText):
                self.fail("taken as another one")
