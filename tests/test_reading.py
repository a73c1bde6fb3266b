"""What a wide board tells by its number alone [7], [1] (a), (d)."""

import unittest

from startlog.errors import NoBoard
from startlog.mixing import Mixing
from startlog.reading import beginnings, read
from tests.samples import Asking, number_of, rows_of, some_rows

SPAN = 26500305465

NOTED = ("load", "set", "end", "late")

GOOD = number_of((0, "load", "boot", 17)) + 1

RESET = number_of((0, "reset", "boot", 0)) + 1


def way(rows, *, reset=False, mixing=None):
    """The numbers of a board, from its begin on, behind each of these rows."""
    mixing = mixing or Mixing()
    numbers = [mixing.begin(reset=reset)]
    for row in rows:
        numbers.append(mixing.mixed(numbers[-1], row))
    return numbers


def board_of(*figures):
    """The number of these figures by SPAN, the first one the highest."""
    value = 0
    for figure in figures:
        value = value * SPAN + figure
    return value


class Read(Asking):

    def check(self, rows, **made):
        for reset in (False, True):
            numbers = way(rows, reset=reset, **made)
            self.same(self.told(read, numbers[-1]), (reset, [row[1:] for row in rows]))
            self.same(self.told(beginnings, numbers[-1]), numbers)

    def test_bare_boards(self):
        self.same(self.told(read, 1), (False, []))
        self.same(self.told(read, 2), (True, []))
        self.same(self.told(beginnings, 1), [1])
        self.same(self.told(beginnings, 2), [2])

    def test_by_hand(self):
        self.same(self.told(read, 26500355331), (False, [("load", "a", 0)]))
        self.same(self.told(read, value=2 * SPAN + 69812), (True, [("end", "a", 0)]))
        value = (SPAN + 49866) * SPAN + 79802
        self.same(self.told(beginnings, value=value), [1, 26500355331, value])
        self.same(self.told(read, value), (False, [("load", "a", 0), ("late", "a", 17)]))

    def test_one_row_at_the_ends(self):
        for row in rows_of(NOTED):
            self.check([row])

    def test_one_to_sixty_rows(self):
        for many in (1, 2, 3, 5, 8, 16, 30, 59, 60, 61, 75):
            for seed in range(4):
                self.check(some_rows(seed, many, NOTED))

    def test_rows_of_one_kind(self):
        for word in NOTED:
            self.check(some_rows(9, 12, (word,)))
            self.check([(0, word, "boot", 0)] * 20)

    def test_by_any_factor(self):
        for factor in (1, 7, 10 ** 6):
            self.check(some_rows(10, 20, NOTED), mixing=Mixing(factor=factor))

    def test_no_other_rows_lead_there(self):
        told = {}
        rows = [(0, word, name, 0) for word in NOTED for name in ("a", "z", "boot")]
        for reset in (False, True):
            for one in rows:
                for other in rows:
                    told[way([one, other], reset=reset)[-1]] = (reset, one, other)
        self.assertEqual(len(told), 2 * len(rows) ** 2)

    def test_a_reset_one_is_told_apart(self):
        rows = some_rows(11, 30, NOTED)
        for many in range(31):
            started, reset = way(rows[:many])[-1], way(rows[:many], reset=True)[-1]
            self.assertNotEqual(started, reset)
            self.assertIs(read(started)[0], False)
            self.assertIs(read(reset)[0], True)
            self.assertEqual(read(started)[1], read(reset)[1])

    def test_what_is_told_is_the_askers_own(self):
        rows = some_rows(12, 5, NOTED)
        for value in (1, 2, way(rows)[-1]):
            first = read(value)
            before = (first[0], list(first[1]))
            first[1].append("more")
            first[1].reverse()
            self.same(read(value), before)
            numbers = beginnings(value)
            kept = list(numbers)
            numbers.clear()
            self.same(beginnings(value), kept)
            self.assertIsNot(read(value)[1], read(value)[1])
            self.assertIsNot(beginnings(value), beginnings(value))


class NoBoards(Asking):

    def check(self, *values):
        for value in values:
            self.refused(NoBoard, value, read, value)
            self.refused(NoBoard, value, read, value=value)
            self.refused(NoBoard, value, beginnings, value)
            self.refused(NoBoard, value, beginnings, value=value)

    def test_no_begin(self):
        self.check(0, 3, 4, 49865, 49866, GOOD, GOOD - 1, SPAN - 2, SPAN - 1)
        self.check(board_of(3, GOOD), board_of(GOOD, GOOD), board_of(SPAN - 1, GOOD, GOOD), board_of(3, *[GOOD] * 20))

    def test_a_figure_nought(self):
        for begin in (1, 2):
            self.check(board_of(begin, 0), board_of(begin, 0, 0), board_of(begin, 0, GOOD), board_of(begin, GOOD, 0),
                       board_of(begin, GOOD, 0, GOOD), board_of(begin, *[GOOD] * 59, 0))

    def test_a_figure_of_no_row(self):
        end_with_note = number_of((0, "end", "boot", 0)) + 1 + 5
        no_name = (27 * 5) * 9973 + 1
        for begin in (1, 2):
            for figure in (1, 2, 3, 49865, end_with_note, no_name, SPAN - 1, SPAN - 2, 26500295494):
                self.check(board_of(begin, figure), board_of(begin, figure, GOOD), board_of(begin, GOOD, figure),
                           board_of(begin, GOOD, figure, GOOD))

    def test_a_begin_amid(self):
        for begin in (1, 2):
            for other in (1, 2):
                self.check(board_of(begin, other), board_of(begin, other, GOOD), board_of(begin, GOOD, other))

    def test_a_figure_of_a_reset(self):
        for begin in (1, 2):
            for figure in (RESET, 89758, 26500295493):
                self.check(board_of(begin, figure), board_of(begin, figure, GOOD), board_of(begin, GOOD, figure),
                           board_of(begin, GOOD, figure, GOOD))

    def test_one_more_or_less(self):
        # A figure one off is another note, so it's read otherwise, or not at all where the word has no note.
        value = board_of(1, number_of((0, "end", "boot", 0)) + 1)
        self.check(value + 1)
        self.same(read(value - 1), (False, [("set", "boot", 9972)]))

    def test_great_ones(self):
        self.check(10 ** 700, 10 ** 700 + 1, SPAN ** 60, 3 * SPAN ** 60)


if __name__ == "__main__":
    unittest.main()
