"""The errors: their names, their place, what they are made of."""

import unittest

from boxeffects import errors

NAMES = (
    "NoLetter NoKind NoStep NoRow NoContents NoForm NoCount NoBoxes NoBox NoClass NoProgram NoPart NoPlace "
    "NoNumber NoThing NoWork NothingBack BadText NoLine"
).split()


class Errors(unittest.TestCase):
    def test_all_are_box_errors_and_tell_their_value(self):
        for name in NAMES:
            made = getattr(errors, name)
            with self.subTest(name=name):
                self.assertTrue(issubclass(made, errors.BoxError))
                self.assertEqual(made.__module__, "boxeffects.errors")
                for value in (None, 3, ("a", 1), ["a"]):
                    self.assertEqual(made(value).told, value)
                with self.assertRaises(TypeError):
                    made()
                with self.assertRaises(TypeError):
                    made(1, 2)

    def test_box_error_is_a_value_error(self):
        self.assertTrue(issubclass(errors.BoxError, ValueError))
        self.assertEqual(errors.BoxError(5).told, 5)

    def test_no_error_is_one_of_another_name(self):
        for name in NAMES:
            for other in NAMES:
                if name != other:
                    self.assertFalse(issubclass(getattr(errors, name), getattr(errors, other)))

    def test_too_many(self):
        self.assertTrue(issubclass(errors.TooMany, OverflowError))
        self.assertFalse(issubclass(errors.TooMany, errors.BoxError))
        self.assertEqual(errors.TooMany(4000).most, 4000)
        self.assertEqual(errors.TooMany(60).told, 60)


if __name__ == "__main__":
    unittest.main()
