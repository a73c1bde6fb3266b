"""Names and their numbers [4]."""

import unittest

from startlog.errors import NoName
from startlog.names import is_name, name_number, name_of
from tests.samples import THINGS, Asking

NAMES = (
    "a", "b", "m", "y", "z", "aa", "az", "ba", "za", "zz", "aaa", "fan", "zaz", "zzz",
    "aaaa", "boot", "kern", "azaz", "zzza", "zzzz",
)

LETTERS = "abcdefghijklmnopqrstuvwxyz"


class IsName(Asking):

    def test_names(self):
        for name in [*NAMES, *LETTERS]:
            with self.subTest(name):
                self.assertIs(self.told(is_name, name), True)

    def test_lengths(self):
        for text in ("", "aaaaa", "zzzzz", "kernel", "a" * 1000):
            self.assertIs(self.told(is_name, text), False)

    def test_other_signs_at_any_place(self):
        for sign in "AZ09 ,.-_`{~\n\t\x00" + "\xe4\xdf\u0430\u0661\uff41":
            for many in range(4):
                for place in range(many + 1):
                    text = "abc"[:place] + sign + "abc"[place:many]
                    with self.subTest(text):
                        self.assertIs(self.told(is_name, text), False)

    def test_other_kinds(self):
        for thing in [*THINGS, ["b", "o"], ("b", "o"), ["boot"], ("boot",), [("boot",)], 531440]:
            with self.subTest(repr(thing)):
                self.assertIs(self.told(is_name, thing), False)

    def test_by_name(self):
        self.assertIs(self.told(is_name, thing="boot"), True)
        self.assertIs(self.told(is_name, thing=5), False)


class NameNumber(Asking):

    def test_by_hand(self):
        for name, number in (
            ("a", 1), ("b", 2), ("z", 26), ("aa", 28), ("az", 53), ("ba", 55), ("zz", 728),
            ("aaa", 757), ("abc", 786), ("zzz", 19682), ("aaaa", 20440), ("boot", 50726), ("zzzz", 531440),
        ):
            with self.subTest(name):
                self.same(self.told(name_number, name), number)

    def test_by_name(self):
        self.same(self.told(name_number, name="az"), 53)

    def test_unlike_names_have_unlike_numbers(self):
        names = [*LETTERS, *[a + b for a in LETTERS for b in LETTERS], *["k" + a + b for a in LETTERS for b in LETTERS]]
        self.assertEqual(len({name_number(name) for name in names}), len(names))

    def test_a_longer_one_has_a_greater_one(self):
        for short, long in (("z", "aa"), ("zz", "aaa"), ("zzz", "aaaa")):
            self.assertLess(name_number(short), name_number(long))

    def test_of_like_length_they_rise_as_texts(self):
        names = sorted(name for name in NAMES if len(name) == 4)
        self.assertEqual(sorted(names, key=name_number), names)


class NameOf(Asking):

    def test_leads_back(self):
        for name in [*NAMES, *LETTERS]:
            with self.subTest(name):
                self.same(self.told(name_of, name_number(name)), name)

    def test_by_hand(self):
        for number, name in ((1, "a"), (26, "z"), (28, "aa"), (53, "az"), (728, "zz"), (50726, "boot"), (531440, "zzzz")):
            self.same(self.told(name_of, number), name)
            self.same(self.told(name_of, number=number), name)

    def test_all_small_numbers(self):
        for number in range(27 ** 3):
            figures = [number // 27 ** k % 27 for k in range(3) if number >= 27 ** k]
            if figures and 0 not in figures:
                self.assertEqual(name_number(name_of(number)), number)
            else:
                self.refused(NoName, number, name_of, number)

    def test_a_figure_nought(self):
        for number in (0, 27, 54, 27 * 26, 729, 729 + 1, 729 + 27, 19683, 19683 + 1, 19683 + 27 + 1,
                       19683 + 729 + 1, 19683 + 729 + 27, 26 * 19683, 531440 - 26, 531440 - 26 * 27, 531440 - 26 * 729):
            with self.subTest(number):
                self.refused(NoName, number, name_of, number)
        self.refused(NoName, 27, name_of, number=27)

    def test_more_than_four_figures(self):
        five = name_number("zzzz") * 27
        for number in (531441, 551881, five, five + 1, five + 26, 27 ** 5 - 1, 27 ** 5, 10 ** 12 + 7,
                       27 ** 4 + name_number("boot"), 27 ** 9 + 1, 10 ** 700 + 1, sum(27 ** k for k in range(5000))):
            self.refused(NoName, number, name_of, number)


if __name__ == "__main__":
    unittest.main()
