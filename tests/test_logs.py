"""Logs that can stand [8]."""

import itertools
import re
import unittest

from startlog.logs import fault, is_log, is_up
from tests.samples import NO_ROWS, WORDS, Asking, some_rows, standing

LETTERS = {"load": "l", "set": "s", "end": "e", "late": "t", "reset": "r"}


def stands(log, many, fixed):
    """Whether a list of rows can stand, all clauses of [8] asked of the whole."""
    order = "".join(LETTERS[row[1]] for row in log)
    below = all(row[0] < many for row in log)
    kept = all(row[0] >= fixed for row in log if row[1] == "reset")
    return bool(re.fullmatch("[ls]*(e[tr]*)?", order)) and below and kept


def expected(log, many, fixed):
    """The place of the first row with which the log, so far, can't stand."""
    for place in range(len(log)):
        if not stands(log[:place + 1], many, fixed):
            return place
    return None


class Logs(Asking):

    def check(self, log, place, **told):
        """Asked in all ways, of a list and of a tuple."""
        self.same(self.told(fault, log, **told), place)
        self.same(self.told(fault, log=log, **told), place)
        self.same(self.told(fault, tuple(log), **told), place)
        self.assertIs(self.told(is_log, log, **told), place is None)
        self.assertIs(self.told(is_log, thing=log, **told), place is None)
        self.assertIs(self.told(is_log, tuple(log), **told), False)


class CanStand(Logs):

    def test_bare(self):
        self.check([], None)
        for many in range(1, 9):
            for fixed in range(many + 1):
                self.check([], None, many=many, fixed=fixed)

    def test_of_one_to_eight_boards(self):
        for many in range(1, 9):
            for fixed in range(many + 1):
                for seed in range(3):
                    self.check(standing(seed, many, fixed), None, many=many, fixed=fixed)
                    self.check(standing(seed, many, fixed), None, fixed=fixed, many=many)

    def test_all_beginnings(self):
        for seed in range(3):
            log = standing(seed)
            for many in range(len(log) + 1):
                self.check(log[:many], None)

    def test_of_sixty_rows(self):
        for rows in (29, 35):
            self.check(standing(5, rows=rows), None)

    def test_an_end_alone_and_late_ones_straight_behind(self):
        self.check([(0, "end", "boot", 0)], None)
        self.check([(0, "end", "boot", 0), (2, "reset", "fan", 0)], None)
        self.check([(3, "end", "boot", 0), (0, "late", "fan", 5)], None)


class CantStand(Logs):

    def places(self, log):
        return (0, len(log) // 2, len(log) - 1)

    def test_what_is_no_row(self):
        log = standing(1)
        for place in self.places(log):
            for thing in NO_ROWS:
                self.check([*log[:place], thing, *log[place + 1:]], place)

    def test_a_board_not_below_many(self):
        for many in range(1, 8):
            log = standing(2, many, 0)
            for place in self.places(log):
                for board in range(many, 8):
                    row = (board, *log[place][1:])
                    self.check([*log[:place], row, *log[place + 1:]], place, many=many, fixed=0)
                self.check([*log[:place], (many, *log[place][1:]), *log[place + 1:]], None, many=many + 1, fixed=0)

    def test_a_load_or_set_behind_an_end(self):
        log = standing(3)
        for word in ("load", "set"):
            for place in range(7, len(log) + 1):
                self.check([*log[:place], (0, word, "boot", 5), *log[place:]], place)
            self.check([(0, "end", "boot", 0), (0, word, "boot", 5)], 1)

    def test_a_second_end(self):
        log = standing(4)
        for place in range(7, len(log) + 1):
            self.check([*log[:place], (1, "end", "boot", 0), *log[place:]], place)
        self.check([log[6], log[6]], 1)

    def test_an_end_put_in_ahead(self):
        # The first row by which it can't stand is the one behind the new end.
        log = standing(5)
        for place in range(7):
            self.check([*log[:place], (1, "end", "boot", 0), *log[place:]], place + 1)

    def test_late_or_reset_with_no_end_ahead(self):
        log = standing(6)
        for row in ((0, "late", "fan", 5), (3, "late", "fan", 0), (2, "reset", "fan", 0), (3, "reset", "fan", 0)):
            self.check([row], 0)
            self.check([row, (0, "end", "boot", 0)], 0)
            for place in range(7):
                self.check([*log[:place], row, *log[place:]], place)
                self.check([*log[:place], row], place)

    def test_a_reset_of_a_fixed_board(self):
        for many in range(1, 9):
            for fixed in range(many + 1):
                log = standing(7, many, fixed)
                for board in range(many):
                    row = (board, "reset", "fan", 0)
                    for place in (7, 10, len(log)):
                        told = place if board < fixed else None
                        self.check([*log[:place], row, *log[place:]], told, many=many, fixed=fixed)

    def test_the_first_of_several(self):
        late, load, end = (0, "late", "fan", 5), (0, "load", "boot", 5), (0, "end", "kern", 0)
        self.check([load, late, None, end, end], 1)
        self.check([load, end, load, None], 2)
        self.check([None, None], 0)
        self.check([load, end, (0, "reset", "fan", 0), load], 2)

    def test_all_short_ones(self):
        rows = [(board, word, "boot", 0) for board in (0, 1, 2) for word in WORDS]
        for many, fixed in ((1, 0), (2, 0), (2, 1), (3, 0), (3, 1), (3, 2), (3, 3)):
            for length in range(4):
                for log in itertools.product(rows, repeat=length):
                    place = fault(log, many=many, fixed=fixed)
                    self.assertEqual(place, expected(log, many, fixed), log)
                    self.assertIs(is_log(list(log), many=many, fixed=fixed), place is None)


class LeftOut(Logs):

    def test_many_is_4_and_fixed_is_2(self):
        for board in range(8):
            load = [(board, "load", "boot", 5)]
            self.check(load, None if board < 4 else 0)
            self.check(load, None if board < 4 else 0, fixed=0)
            self.check(load, None if board < 6 else 0, many=6)
            reset = [(0, "end", "boot", 0), (board, "reset", "fan", 0)]
            self.check(reset, None if 2 <= board < 4 else 1)
            self.check(reset, None if 2 <= board < 8 else 1, many=8)
            self.check(reset, None if 1 <= board < 4 else 1, fixed=1)

    def test_by_names_in_either_order(self):
        log = [(5, "end", "boot", 0), (1, "reset", "fan", 0)]
        self.check(log, 0)
        self.check(log, 1, many=6)
        self.check(log, None, many=6, fixed=1)
        self.check(log, None, fixed=1, many=6)
        self.assertIsNone(fault(fixed=1, log=log, many=6))
        self.assertIs(is_log(fixed=1, thing=log, many=6), True)

    def test_by_names_alone(self):
        self.by_names_alone(fault, [], 4)
        self.by_names_alone(is_log, [], 4)
        self.by_names_alone(fault, [], 4, 2)
        self.by_names_alone(is_log, [], 4, 2)
        self.by_names_alone(is_up, [], 4)


class IsLog(Asking):

    def test_of_other_kinds(self):
        for thing in NO_ROWS:
            self.assertIs(self.told(is_log, thing), thing == [] and isinstance(thing, list), thing)
            self.assertIs(self.told(is_log, [thing]), False, thing)
            self.assertIs(self.told(is_log, (thing,)), False, thing)

    def test_of_rows_in_lists(self):
        row = (0, "load", "boot", 5)
        self.assertIs(self.told(is_log, [row]), True)
        self.assertIs(self.told(is_log, [row, row]), True)
        for thing in (row, (row,), (), [[row]], [(row,)], [row, [row]], [row, list(row)], list(row)):
            self.assertIs(self.told(is_log, thing), False, thing)


class IsUp(Asking):

    def test_without_an_end(self):
        for log in ([], [(0, "load", "end", 5)], standing(8)[:6], some_rows(13, 60, ("load", "set"))):
            self.assertIs(self.told(is_up, log), False)
            self.assertIs(self.told(is_up, tuple(log)), False)

    def test_with_an_end(self):
        for log in ([(0, "end", "boot", 0)], standing(9)[:7], standing(9), standing(9, 8, 0), standing(9, 1, 1, 25)):
            self.assertIs(self.told(is_up, log), True)
            self.assertIs(self.told(is_up, log=tuple(log)), True)


if __name__ == "__main__":
    unittest.main()
