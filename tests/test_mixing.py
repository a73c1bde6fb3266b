"""Mixings, wide and narrow [6]."""

import unittest

from startlog.errors import BadMixing
from startlog.mixing import Mixing
from tests.samples import WORDS, Asking, number_of, rows_of, some_rows

SPAN = 26500305465

# (width, factor), the least and the greatest ones among them.
PAIRS = (
    (3, 1), (3, 7919), (3, 10 ** 6), (4, 7), (5, 7919), (101, 7), (101, 7919), (101, 100), (101, 102), (360, 7),
    (999983, 10 ** 6), (10 ** 6, 1), (10 ** 6, 7919), (10 ** 6, 999999),
)

ROWS = [*rows_of(WORDS, boards=(1,))[::7], *some_rows(4, 20, WORDS)]


def load_of(note):
    """A row of this note."""
    return (0, "load", "a", note)


class Made(Asking):

    def test_wide(self):
        for made in (Mixing(), Mixing(None), Mixing(width=None), Mixing(factor=7919), Mixing(None, factor=7919)):
            self.same((made.width, made.factor), (None, 7919))
        for factor in (1, 2, 7, 7918, 7919, 7920, 15838, 999999, 10 ** 6):
            made = Mixing(factor=factor)
            self.same((made.width, made.factor), (None, factor))

    def test_narrow(self):
        for width, factor in PAIRS:
            for made in (Mixing(width, factor=factor), Mixing(factor=factor, width=width)):
                self.same((made.width, made.factor), (width, factor))
        for width in (3, 4, 101, 7918, 7920, 10 ** 6 - 1, 10 ** 6):
            self.same((Mixing(width).width, Mixing(width=width).factor), (width, 7919))

    def test_bad_width(self):
        for width in (2, 1, 0, -1, -3, -101, 10 ** 6 + 1, 10 ** 9, True, False, "", "3", "None", [], [101], (), (101,),
                      [None], (None,), ((101, 7),)):
            with self.subTest(repr(width)):
                self.refused(BadMixing, "width", Mixing, width)
                self.refused(BadMixing, "width", Mixing, width=width, factor=7)

    def test_bad_factor(self):
        for factor in (0, -1, -7, 10 ** 6 + 1, 10 ** 9, True, False, None, "", "7", [], [7], (), (7,), [[7]]):
            with self.subTest(repr(factor)):
                self.refused(BadMixing, "factor", Mixing, factor=factor)
                self.refused(BadMixing, "factor", Mixing, 101, factor=factor)

    def test_a_divisor_in_common(self):
        for width, factor in ((101, 101), (101, 202), (202, 101), (100, 10), (6, 2), (6, 3), (6, 4), (9, 6), (3, 999999),
                              (10 ** 6, 2), (10 ** 6, 5), (10 ** 6, 10 ** 6), (7919, 7919), (15838, 2)):
            with self.subTest((width, factor)):
                self.refused(BadMixing, "factor", Mixing, width, factor=factor)
        for width in (7919, 15838, 7919 * 126):
            self.refused(BadMixing, "factor", Mixing, width)
            self.refused(BadMixing, "factor", Mixing, width=width)
            self.same(Mixing(width, factor=1).width, width)

    def test_width_ahead_of_factor(self):
        for width in (2, 10 ** 6 + 1, True, "a", [], ()):
            for factor in (0, 10 ** 6 + 1, True, None, "a", [], ()):
                self.refused(BadMixing, "width", Mixing, width, factor=factor)

    def test_factor_by_its_name_alone(self):
        self.by_names_alone(Mixing, 101, 7)

    def test_never_changed_by_asking(self):
        for made in (Mixing(), Mixing(101, factor=7)):
            fields = (made.width, made.factor)
            made.begin(reset=True)
            made.mixed(1, load_of(5))
            made.unmixed(1, load_of(5))
            made.alike(load_of(5), load_of(6))
            self.same((made.width, made.factor), fields)


class Begin(Asking):

    def test_begin(self):
        for made in (Mixing(), Mixing(3), Mixing(101, factor=7), Mixing(10 ** 6), Mixing(factor=1)):
            self.same(self.told(made.begin), 1)
            self.same(self.told(made.begin, reset=False), 1)
            self.same(self.told(made.begin, reset=True), 2)

    def test_reset_by_its_name_alone(self):
        self.by_names_alone(Mixing().begin, True)


class Mixed(Asking):

    def test_wide_by_hand(self):
        for made in (Mixing(), Mixing(factor=7)):
            self.same(self.told(made.mixed, 0, (0, "load", "a", 0)), 49866)
            self.same(self.told(made.mixed, 1, (0, "load", "a", 0)), 26500355331)
            self.same(self.told(made.mixed, 2, (3, "load", "a", 0)), 53000660796)
            self.same(self.told(made.mixed, value=1, row=(0, "reset", "zzzz", 0)), 53000600958)

    def test_narrow_by_hand(self):
        made = Mixing(101, factor=7)
        self.same(self.told(made.mixed, 1, (0, "load", "a", 17)), 97)
        self.same(self.told(made.mixed, 2, (0, "load", "a", 17)), 3)
        self.same(self.told(made.mixed, row=(5, "end", "a", 0), value=100), 14)
        self.same(self.told(Mixing(3, factor=1).mixed, 2, (0, "load", "a", 0)), 2)
        self.same(self.told(Mixing(3).mixed, 2, (0, "load", "a", 0)), 1)

    def test_wide_as_told(self):
        for value in (0, 1, 2, 3, SPAN - 1, SPAN, 10 ** 700):
            for row in ROWS:
                self.same(self.told(Mixing().mixed, value, row), value * SPAN + number_of(row) + 1)

    def test_narrow_as_told(self):
        for width, factor in PAIRS:
            made = Mixing(width, factor=factor)
            for value in (0, 1, 2, width // 2, width - 1):
                for row in ROWS:
                    self.same(self.told(made.mixed, value, row), (value * factor + number_of(row) + 1) % width)

    def test_whatever_the_board(self):
        for made in (Mixing(), Mixing(101)):
            numbers = {made.mixed(1, (board, "late", "fan", 5)) for board in range(8)}
            self.assertEqual(len(numbers), 1)


class Unmixed(Asking):

    def test_wide_leads_back(self):
        for made in (Mixing(), Mixing(factor=7)):
            for value in (0, 1, 2, 3, SPAN - 1, SPAN, SPAN + 1, 10 ** 700):
                for row in ROWS:
                    self.same(self.told(made.unmixed, made.mixed(value, row), row), value)

    def test_wide_none(self):
        for row in ROWS:
            low = number_of(row) + 1
            for value in (0, 1, 2, low - 1, low + 1, SPAN, SPAN + low - 1, SPAN + low + 1, 2 * SPAN):
                self.assertIsNone(self.told(Mixing().unmixed, value, row))
            self.same(self.told(Mixing().unmixed, low, row), 0)
            self.same(self.told(Mixing().unmixed, low + SPAN, row), 1)

    def test_wide_of_another_row(self):
        made = Mixing()
        value = made.mixed(1, (0, "load", "boot", 17))
        for row in ((0, "load", "boot", 16), (0, "load", "boot", 18), (0, "set", "boot", 17), (0, "load", "boos", 17)):
            self.assertIsNone(made.unmixed(value, row))
        self.same(made.unmixed(value, (7, "load", "boot", 17)), 1)

    def test_narrow_leads_back(self):
        for width, factor in PAIRS:
            made = Mixing(width, factor=factor)
            for value in sorted({0, 1, 2, 3 % width, width // 3, width // 2, width - 2, width - 1}):
                for row in ROWS[::3]:
                    self.same(self.told(made.unmixed, made.mixed(value, row), row), value)

    def test_narrow_every_number(self):
        for width, factor in ((3, 1), (3, 10 ** 6), (4, 7), (101, 7), (101, 7919), (360, 7)):
            made = Mixing(width, factor=factor)
            for row in ROWS[::9]:
                ways = {made.mixed(value, row): value for value in range(width)}
                self.assertEqual(len(ways), width)
                for value in range(width):
                    self.same(made.unmixed(value, row), ways[value])

    def test_narrow_none_from_the_width_on(self):
        for width, factor in PAIRS:
            made = Mixing(width, factor=factor)
            for value in (width, width + 1, 2 * width, 10 ** 6 + width, SPAN, 10 ** 700):
                for row in ROWS[::5]:
                    self.assertIsNone(self.told(made.unmixed, value, row))

    def test_by_names(self):
        self.same(self.told(Mixing(101, factor=7).unmixed, row=(0, "load", "a", 17), value=97), 1)
        self.same(self.told(Mixing().unmixed, value=26500355331, row=(0, "load", "a", 0)), 1)


class Alike(Asking):

    def test_by_hand(self):
        made = Mixing(101)
        self.assertIs(self.told(made.alike, load_of(0), load_of(101)), True)
        self.assertIs(self.told(made.alike, load_of(101), load_of(0)), True)
        self.assertIs(self.told(made.alike, load_of(5), load_of(5 + 9 * 101)), True)
        self.assertIs(self.told(made.alike, load_of(0), load_of(100)), False)
        self.assertIs(self.told(made.alike, other=load_of(102), row=load_of(0)), False)
        self.assertIs(self.told(made.alike, row=load_of(0), other=load_of(202)), True)
        # Three words are 29919 apart, a number of threes.
        self.assertIs(self.told(Mixing(3).alike, (0, "load", "a", 0), (0, "late", "a", 0)), True)
        self.assertIs(self.told(Mixing(3).alike, (0, "load", "a", 0), (0, "set", "a", 0)), False)
        self.assertIs(self.told(Mixing(3).alike, (0, "load", "a", 0), (0, "set", "a", 2)), True)

    def test_wide_just_the_same_row(self):
        for made in (Mixing(), Mixing(factor=7)):
            for row in ROWS:
                self.assertIs(self.told(made.alike, row, (7, *row[1:])), True)
                for other in ROWS:
                    self.assertIs(made.alike(row, other), row[1:] == other[1:])

    def test_on_another_board(self):
        for made in (Mixing(), Mixing(3), Mixing(101, factor=7), Mixing(10 ** 6)):
            for row in ROWS:
                self.assertIs(made.alike((0, *row[1:]), (7, *row[1:])), True)

    def test_where_each_number_is_led_to_the_same_one(self):
        for width, factor in ((3, 7919), (4, 7), (101, 7)):
            made = Mixing(width, factor=factor)
            for row in ROWS:
                for other in ROWS[::4]:
                    same = all(made.mixed(value, row) == made.mixed(value, other) for value in range(width))
                    self.assertIs(self.told(made.alike, row, other), same)


class Looks:
    """Has both fields, and is no Mixing."""

    width = None
    factor = 7919


class Equal(unittest.TestCase):

    def test_of_both_fields(self):
        made = [(None, 7919), (None, 7), (None, 1), (101, 7919), (101, 7), (102, 7919), (102, 7), (3, 7919)]
        for one in made:
            for other in made:
                left, right = Mixing(one[0], factor=one[1]), Mixing(other[0], factor=other[1])
                self.assertIs(left == right, one == other)
                self.assertIs(left != right, one != other)

    def test_left_out_or_told(self):
        self.assertIs(Mixing() == Mixing(None, factor=7919), True)
        self.assertIs(Mixing(101) == Mixing(width=101, factor=7919), True)

    def test_to_nothing_else(self):
        for made in (Mixing(), Mixing(101, factor=7)):
            for other in (None, True, False, 0, 101, "", "Mixing()", "Mixing(101, factor=7)", [], (), (None, 7919),
                          (101, 7), [101, 7], Looks()):
                self.assertIs(made == other, False)
                self.assertIs(made != other, True)


class Shown(unittest.TestCase):

    def test_str_and_repr(self):
        for made, text in (
            (Mixing(), "Mixing()"),
            (Mixing(None, factor=7919), "Mixing()"),
            (Mixing(101, factor=7), "Mixing(101, factor=7)"),
            (Mixing(factor=7), "Mixing(factor=7)"),
            (Mixing(101), "Mixing(101)"),
            (Mixing(101, factor=7919), "Mixing(101)"),
            (Mixing(3, factor=1), "Mixing(3, factor=1)"),
            (Mixing(10 ** 6, factor=999999), "Mixing(1000000, factor=999999)"),
            (Mixing(factor=10 ** 6), "Mixing(factor=1000000)"),
        ):
            self.assertEqual(str(made), text)
            self.assertEqual(repr(made), text)
            self.assertEqual(f"{made}", text)


if __name__ == "__main__":
    unittest.main()
