import unittest

from tests.helping import ODD_VALUES
from truestandins import errors

NAMES = (
    "BadWorths BadText BadInner BadCall BadAnswer BadPact BadWord NoPart NoWire BadPart NotKept TooMany BadMore "
    "BadOffers BadFaults BadRows BadDoors BadTest BadBeside Ended NoEvent Amid BadEdit NothingToUndo NothingToRedo "
    "BadRun BadLine"
).split()


class Errors(unittest.TestCase):
    def test_all_derive_directly_from_the_one_error(self):
        self.assertEqual(errors.WireError.__bases__, (ValueError,))
        for name in NAMES:
            with self.subTest(name):
                self.assertEqual(getattr(errors, name).__bases__, (errors.WireError,))
                self.assertEqual(getattr(errors, name).__name__, name)
                self.assertEqual(getattr(errors, name).__module__, "truestandins.errors")

    def test_there_are_no_others(self):
        found = [name for name, thing in vars(errors).items() if isinstance(thing, type)]
        self.assertEqual(sorted(found), sorted(NAMES + ["WireError"]))

    def test_they_keep_their_only_argument_of_any_kind(self):
        for name in NAMES + ["WireError"]:
            for value in ODD_VALUES:
                with self.subTest(name, value=value):
                    self.assertIs(getattr(errors, name)(value).value, value)
                    self.assertIs(getattr(errors, name)(value=value).value, value)

    def test_they_take_one_argument(self):
        for name in NAMES:
            with self.subTest(name):
                self.assertRaises(TypeError, getattr(errors, name))
                self.assertRaises(TypeError, getattr(errors, name), 1, 2)

    def test_none_catches_another(self):
        for name in NAMES:
            for other in NAMES:
                error = getattr(errors, name)(0)
                self.assertEqual(isinstance(error, getattr(errors, other)), name == other)


if __name__ == "__main__":
    unittest.main()
