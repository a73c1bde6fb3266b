"""Rows and their numbers [5]."""

import unittest

from startlog.errors import NoRow
from startlog.rows import is_row, row_number, row_with
from tests.samples import NAMES, THINGS, WORDS, Asking, number_of, rows_of, some_rows

SPAN = 26500305465


class IsRow(Asking):

    def test_rows(self):
        for row in [*rows_of(WORDS, boards=range(8)), *some_rows(1, 300, WORDS, boards=8)]:
            self.assertIs(self.told(is_row, row), True, row)

    def test_boards(self):
        for board in (-1, 8, 9, -8, 10 ** 9, True, False, None, "0", "", [0], (0,), [], ()):
            for word in WORDS:
                self.assertIs(self.told(is_row, (board, word, "boot", 0)), False, board)

    def test_words(self):
        for word in ("", "loa", "loads", "Load", "LOAD", " load", "load ", "end\n", "reset,", "kern", 0, 2, True, False,
                     None, ["load"], ("load",), WORDS, list(WORDS), []):
            self.assertIs(self.told(is_row, (0, word, "boot", 0)), False, word)

    def test_names(self):
        for name in ("", "kerne", "Boot", "b t", "b0", "a,", "a\n", 1, 531440, True, None, ["boot"], ("boot",), [], ()):
            for word in WORDS:
                self.assertIs(self.told(is_row, (0, word, name, 0)), False, name)

    def test_notes(self):
        for note in (-1, 9973, 9974, -9973, 10 ** 9, True, False, None, "0", "", [0], (0,), [], ()):
            for word in WORDS:
                self.assertIs(self.told(is_row, (0, word, "boot", note)), False, note)

    def test_no_note_of_end_and_reset(self):
        for word in ("end", "reset"):
            for note in (1, 17, 9972):
                self.assertIs(self.told(is_row, (2, word, "boot", note)), False, note)
        for word in ("load", "set", "late"):
            for note in (1, 17, 9972):
                self.assertIs(self.told(is_row, (2, word, "boot", note)), True, note)

    def test_more_or_fewer_parts(self):
        for row in ((), (0,), (0, "load"), (0, "load", "boot"), (0, "load", "boot", 5, 0), (0, "load", "boot", 5, None),
                    ("load", "boot", 5), (0, "boot", 5), (0, "end", "boot"), (0, "load", "boot", 5) * 2):
            self.assertIs(self.told(is_row, row), False, row)

    def test_parts_exchanged(self):
        for row in (("load", 0, "boot", 5), (0, "boot", "load", 5), (5, "boot", "load", 0), (0, "load", 5, "boot")):
            self.assertIs(self.told(is_row, row), False, row)

    def test_lists_and_other_kinds(self):
        for row in rows_of(WORDS):
            self.assertIs(self.told(is_row, list(row)), False)
            self.assertIs(self.told(is_row, [row]), False)
            self.assertIs(self.told(is_row, (row,)), False)
        for thing in THINGS:
            self.assertIs(self.told(is_row, thing), False, thing)

    def test_by_name(self):
        self.assertIs(self.told(is_row, thing=(0, "load", "boot", 5)), True)
        self.assertIs(self.told(is_row, thing="boot"), False)


class RowNumber(Asking):

    def test_by_hand(self):
        for row, number in (
            ((0, "load", "a", 0), 49865),
            ((0, "load", "a", 9972), 59837),
            ((0, "set", "a", 0), 59838),
            ((0, "end", "a", 0), 69811),
            ((0, "late", "a", 17), 79801),
            ((0, "reset", "a", 0), 89757),
            ((0, "load", "b", 0), 99730),
            ((0, "load", "boot", 17), 2529452007),
            ((0, "late", "zzzz", 9972), 26500295491),
            ((0, "reset", "zzzz", 0), 26500295492),
        ):
            with self.subTest(row):
                self.same(self.told(row_number, row), number)
                self.same(self.told(row_number, row=row), number)

    def test_as_told(self):
        for row in [*rows_of(WORDS), *some_rows(2, 300, WORDS)]:
            self.same(self.told(row_number, row), number_of(row))

    def test_the_same_on_every_board(self):
        for board in range(8):
            self.same(self.told(row_number, (board, "set", "kern", 99)), row_number((0, "set", "kern", 99)))

    def test_below_span_less_1(self):
        for row in rows_of(WORDS):
            self.assertLess(row_number(row), SPAN - 1)
            self.assertGreaterEqual(row_number(row), 49865)

    def test_unlike_rows_of_a_board_have_unlike_numbers(self):
        rows = rows_of(WORDS, boards=(0,))
        self.assertEqual(len({row_number(row) for row in rows}), len(rows))


class RowWith(Asking):

    def test_leads_back(self):
        for row in [*rows_of(WORDS), *some_rows(3, 300, WORDS, boards=8)]:
            self.same(self.told(row_with, row_number(row), row[0]), row)

    def test_on_the_told_board(self):
        for board in range(8):
            self.same(self.told(row_with, 2529452007, board), (board, "load", "boot", 17))
            self.same(self.told(row_with, board=board, number=69811), (board, "end", "a", 0))

    def test_below_0(self):
        for number in (-1, -2, -9973, -9974, -5 * 9973, -5 * 9973 - 1, -4 * 9973, -49865, -59838, -SPAN, -SPAN + 49865,
                       -SPAN - 1, -10 ** 700):
            for board in (0, 7):
                self.refused(NoRow, number, row_with, number, board)

    def test_no_name(self):
        for figures in (0, 27, 54, 729, 730, 19683, 531440 - 26, 531440 - 26 * 27, 531441, 531442, 551881, 27 ** 5):
            for place in (0, 1, 3):
                for note in (0, 17, 9972):
                    number = (figures * 5 + place) * 9973 + note
                    self.refused(NoRow, number, row_with, number, 3)

    def test_end_or_reset_with_a_note(self):
        for name in NAMES:
            for word in ("end", "reset"):
                for note in (1, 17, 9972):
                    number = number_of((0, word, name, 0)) + note
                    self.refused(NoRow, number, row_with, number, 0)

    def test_the_edges_of_all_rows(self):
        for number in (0, 1, 49864, 26500295493, SPAN - 2, SPAN - 1, SPAN, SPAN + 1, SPAN + 49865, 2 * SPAN + 49865,
                       10 ** 12, 10 ** 700):
            self.refused(NoRow, number, row_with, number, 0)
            self.refused(NoRow, number, row_with, board=1, number=number)
        self.same(row_with(49865, 0), (0, "load", "a", 0))
        self.same(row_with(26500295492, 0), (0, "reset", "zzzz", 0))

    def test_what_it_tells_is_a_row_of_that_number(self):
        for number in range(49000, 200000, 37):
            try:
                row = row_with(number, 5)
            except NoRow:
                continue
            self.assertTrue(is_row(row))
            self.assertEqual(row_number(row), number)


if __name__ == "__main__":
    unittest.main()
