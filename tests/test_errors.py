"""The refusals [2], and how they are made."""

import unittest

from startlog import errors

NAMES = (
    "NoName", "NoRow", "BadMixing", "NoBoard", "BadLog", "BadStep", "BadHand", "BadMachine", "NotYet",
    "Fixed", "BadText", "BadLine", "Known", "Unknown", "TooMany", "BadDeed", "NoNumber", "NoPacket",
)

CLASSES = [getattr(errors, name) for name in NAMES]

WHATS = (
    0, 5, -3, 10 ** 5000, True, False, None, "", "width", "two words", (), (1, "a"), ("turn", 0, (0, "load", "a", 1)),
    [], [1, [2]], [()],
)


class Errors(unittest.TestCase):

    def test_eighteen_unlike_classes_of_their_names(self):
        self.assertEqual(len(set(CLASSES)), 18)
        for name, error in zip(NAMES, CLASSES):
            self.assertEqual(error.__name__, name)

    def test_start_error_stands_under_value_error(self):
        self.assertEqual(errors.StartError.__name__, "StartError")
        self.assertTrue(issubclass(errors.StartError, ValueError))

    def test_each_stands_straight_under_start_error(self):
        for error in CLASSES:
            with self.subTest(error.__name__):
                self.assertEqual(error.__bases__, (errors.StartError,))

    def test_none_stands_under_another(self):
        for error in CLASSES:
            for other in CLASSES:
                if error is not other:
                    self.assertFalse(issubclass(error, other), (error, other))

    def test_made_by_place_and_by_name(self):
        for error in [errors.StartError, *CLASSES]:
            for what in WHATS:
                with self.subTest(error.__name__):
                    self.assertIs(error(what).what, what)
                    self.assertIs(error(what=what).what, what)

    def test_made_with_just_one_thing(self):
        for error in [errors.StartError, *CLASSES]:
            with self.assertRaises(TypeError):
                error()
            with self.assertRaises(TypeError):
                error(1, 2)

    def test_raised_and_caught(self):
        for error in CLASSES:
            for above in (error, errors.StartError, ValueError):
                with self.assertRaises(above) as caught:
                    raise error("a")
                self.assertEqual(caught.exception.what, "a")
                self.assertIs(type(caught.exception), error)

    def test_two_of_them_keep_their_own(self):
        one = errors.NoName(1)
        two = errors.NoName(2)
        self.assertEqual((one.what, two.what), (1, 2))


if __name__ == "__main__":
    unittest.main()
