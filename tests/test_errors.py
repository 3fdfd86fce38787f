import unittest

from oncebuilt import errors
from oncebuilt.errors import BadHistory, BadNumber, Busy, Empty, NoMember, NotTorn, OnceError, Torn
from tests.helpers import Untouchable

ALL = [OnceError, BadNumber, BadHistory, NoMember, Empty, Busy, Torn, NotTorn]
BASES = {
    OnceError: ValueError,
    BadNumber: OnceError,
    BadHistory: OnceError,
    NoMember: LookupError,
    Empty: IndexError,
    Busy: RuntimeError,
    Torn: RuntimeError,
    NotTorn: RuntimeError,
}
WITH_MESSAGE = [OnceError, BadNumber, Empty, Busy, Torn, NotTorn]


class ErrorClasses(unittest.TestCase):
    def test_each_class_has_the_base_that_is_listed(self):
        for error in ALL:
            self.assertIs(error.__base__, BASES[error], error)

    def test_no_class_is_a_subclass_of_another_but_of_once_error(self):
        for one in ALL:
            for other in ALL:
                if one is not other:
                    expected = other is OnceError and one in (BadNumber, BadHistory)
                    self.assertEqual(issubclass(one, other), expected, (one, other))

    def test_each_class_is_defined_in_errors(self):
        for error in ALL:
            self.assertEqual(error.__module__, "oncebuilt.errors")
            self.assertIs(getattr(errors, error.__name__), error)

    def test_a_message_is_kept(self):
        for error in WITH_MESSAGE:
            self.assertEqual(str(error("what was wrong")), "what was wrong")

    def test_errors_can_be_raised_and_caught_by_their_bases(self):
        for error in WITH_MESSAGE:
            with self.assertRaises(BASES[error]):
                raise error("what was wrong")
        with self.assertRaises(ValueError):
            raise BadHistory(4)
        with self.assertRaises(LookupError):
            raise NoMember(4)

    def test_attributes_are_any_objects(self):
        for value in [0, 7, -1, None, True, "x", "", [1], {}, (), 1.5, 10 ** 5000, object(), Untouchable()]:
            self.assertIs(BadHistory(value).index, value)
            self.assertIs(NoMember(value).number, value)

    def test_errors_with_an_attribute_take_just_one_argument(self):
        for error in (BadHistory, NoMember):
            with self.assertRaises(TypeError):
                error()
            with self.assertRaises(TypeError):
                error(1, 2)


if __name__ == "__main__":
    unittest.main()
