import unittest

from oneservesall import errors

NAMES = """InvalidNumber InvalidChances InvalidScheme InvalidRatio InvalidAsker InvalidReading InvalidPaper InvalidIndex
InvalidPair InvalidWish InvalidForm InvalidSchema InvalidPerson InvalidTable InvalidTerm InvalidTest InvalidQuestion
InvalidRelease InvalidTree InvalidLimit InvalidLot InvalidOutputs InvalidName Overdrawn UnknownName WrongKind
NothingToUndo Unreadable Unorderly InvalidBits NoFactor NoReading DividedByZero""".split()


class ErrorsTest(unittest.TestCase):
    def test_there_are_all_of_them(self):
        self.assertEqual(len(NAMES), 33)
        for name in NAMES:
            self.assertEqual(getattr(errors, name).__name__, name)

    def test_each_derives_from_tell_error_itself(self):
        self.assertEqual(errors.TellError.__bases__, (ValueError,))
        for name in NAMES:
            self.assertEqual(getattr(errors, name).__bases__, (errors.TellError,), name)

    def test_each_is_defined_in_its_file(self):
        for name in ["TellError", *NAMES]:
            self.assertEqual(getattr(errors, name).__module__, "oneservesall.errors")

    def test_each_has_its_value(self):
        for name in ["TellError", *NAMES]:
            for value in (0, None, "text", (1, 2), [3], ((1, 2), (3, 4))):
                made = getattr(errors, name)
                self.assertIs(made(value).value, value, name)
                self.assertIs(made(value=value).value, value, name)

    def test_each_takes_one_argument(self):
        for name in ["TellError", *NAMES]:
            made = getattr(errors, name)
            with self.assertRaises(TypeError):
                made()
            with self.assertRaises(TypeError):
                made(1, 2)

    def test_each_is_caught_by_its_bases_alone(self):
        for name in NAMES:
            with self.assertRaises(errors.TellError) as caught:
                raise getattr(errors, name)(7)
            self.assertEqual(type(caught.exception).__name__, name)
            self.assertIsInstance(caught.exception, ValueError)
            others = [other for other in NAMES if other != name]
            self.assertFalse(isinstance(caught.exception, tuple(getattr(errors, other) for other in others)))


if __name__ == "__main__":
    unittest.main()
