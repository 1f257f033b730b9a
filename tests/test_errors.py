import unittest

from asneverbegun import errors
from asneverbegun.errors import NoLine, NoName, WorkError
from values import any_values

WITH = {
    "InvalidDeed": "word", "InvalidWorld": "word", "InvalidPlan": "word", "InvalidSystem": "word",
    "InvalidText": "at", "InvalidEvent": "at", "InvalidLog": "at", "InvalidTimes": "word",
    "InvalidCompany": "word", "InvalidBook": "word", "Refused": "at",
}
WITHOUT = ["InvalidScene", "InvalidHarm", "InvalidCommand"]


class ErrorsTest(unittest.TestCase):
    def test_the_base_class(self):
        self.assertEqual(WorkError.__bases__, (ValueError,))

    def test_what_they_are_derived_from(self):
        for name in list(WITH) + WITHOUT:
            self.assertEqual(getattr(errors, name).__bases__, (WorkError,), name)
        self.assertEqual(NoName.__bases__, (KeyError,))
        self.assertEqual(NoLine.__bases__, (IndexError,))

    def test_there_are_no_others(self):
        names = [name for name, value in vars(errors).items() if isinstance(value, type)]
        self.assertEqual(sorted(names), sorted(list(WITH) + WITHOUT + ["WorkError", "NoName", "NoLine"]))

    def test_they_keep_their_arguments_themselves(self):
        rows = dict(WITH, NoName="name", NoLine="at")
        for name, attribute in rows.items():
            for value in any_values():
                self.assertIs(getattr(getattr(errors, name)(value), attribute), value)
                self.assertIs(getattr(getattr(errors, name)(**{attribute: value}), attribute), value)

    def test_those_without_arguments(self):
        for name in WITHOUT:
            self.assertIsInstance(getattr(errors, name)(), WorkError)
            with self.assertRaises(TypeError):
                getattr(errors, name)(1)

    def test_the_argument_is_wanted(self):
        for name in list(WITH) + ["NoName", "NoLine"]:
            with self.assertRaises(TypeError):
                getattr(errors, name)()
            with self.assertRaises(TypeError):
                getattr(errors, name)(1, 2)

    def test_they_are_raised_and_caught(self):
        with self.assertRaises(WorkError):
            raise errors.InvalidText(3)
        with self.assertRaises(KeyError):
            raise NoName("a")
        with self.assertRaises(IndexError):
            raise NoLine(3)


if __name__ == "__main__":
    unittest.main()
