"""The constants, each at its point of the document."""

import unittest

from startlog import words

NUMBERS = {
    "NOTES": 9973,
    "SPAN": 26500305465,
    "FACTOR": 7919,
    "BOARDS": 4,
    "FIXED": 2,
    "SIGNS": 1000000000039,
    "FOLD": 1000003,
    "LIFE": 9,
    "MACHINES": 8,
}


class Words(unittest.TestCase):

    def test_numbers(self):
        for name, number in NUMBERS.items():
            with self.subTest(name):
                self.assertIs(type(getattr(words, name)), int)
                self.assertEqual(getattr(words, name), number)

    def test_words(self):
        self.assertIs(type(words.WORDS), tuple)
        self.assertEqual(words.WORDS, ("load", "set", "end", "late", "reset"))
        for word in words.WORDS:
            self.assertIs(type(word), str)


if __name__ == "__main__":
    unittest.main()
