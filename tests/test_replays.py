"""Logs replayed [9], [1] (a), (d)."""

import unittest

from startlog.errors import BadLog
from startlog.logs import fault
from startlog.mixing import Mixing
from startlog.reading import read
from startlog.replays import leads_to, replay, replays, shown_rows
from tests.samples import BOARDS, MIXINGS, NO_ROWS, SPAN, Asking, number_of, plain_boards, some_rows, standing

LOAD, END, LATE = (0, "load", "boot", 17), (0, "end", "boot", 0), (1, "late", "fan", 5)


def resets(many=4, fixed=2, seed=0):
    """A log with two resets of each board that isn't fixed, rows ahead of, between and behind them."""
    log = [*some_rows(seed, 5, ("load", "set"), boards=many), (0, "end", "kern", 0)]
    for k in range(2):
        log.extend(some_rows(seed + k + 1, 4, ("late",), boards=many))
        log.extend([(board, "reset", "fan", 0) for board in range(fixed, many)])
    return [*log, *some_rows(seed + 3, 3, ("late",), boards=many)]


def plain_shown(log, board):
    """(is_reset, rows) of one board, as [9] tells it."""
    rows = [row[1:] for row in log if row[0] == board]
    places = [place for place, row in enumerate(rows) if row[0] == "reset"]
    return (bool(places), rows[places[-1] + 1:] if places else rows)


class Replayed(Asking):

    def check(self, log, width=None, factor=7919, **told):
        """All that is told of a log that can stand, beside a plain reckoning."""
        mixing = Mixing(width, factor=factor)
        many = told.get("many", 4)
        numbers = plain_boards(width, factor, log, many)
        for rows in (log, tuple(log)):
            asked = {"mixing": mixing, "log": rows}
            self.same(self.ways(replay, asked, **told), numbers)
            self.same(
                self.ways(replays, asked, **told),
                [plain_boards(width, factor, log[:place], many) for place in range(len(log) + 1)],
            )
            self.same(self.ways(shown_rows, {"log": rows}, **told), [plain_shown(log, board) for board in range(many)])
            self.assertIs(self.ways(leads_to, {**asked, "values": numbers}, **told), True)
            self.assertIs(self.told(leads_to, mixing, rows, tuple(numbers), **told), True)
            for board in range(many):
                for other in (numbers[board] + 1, numbers[board] - 1, numbers[board] + SPAN):
                    values = [*numbers[:board], other, *numbers[board + 1:]]
                    self.assertIs(self.told(leads_to, mixing, rows, values, **told), False)
        for values in (numbers[:-1], [*numbers, 1], [], [*numbers, *numbers]):
            self.assertIs(self.told(leads_to, mixing, log, values, **told), False)
            self.assertIs(self.told(leads_to, mixing, log, tuple(values), **told), False)

    def test_bare(self):
        self.same(replay(Mixing(), []), [1, 1, 1, 1])
        self.same(replays(Mixing(101), []), [[1, 1, 1, 1]])
        self.same(shown_rows([]), [(False, [])] * 4)
        self.assertIs(leads_to(Mixing(), [], [1, 1, 1, 1]), True)
        self.assertIs(leads_to(Mixing(), [], [2, 1, 1, 1]), False)
        for many, fixed in BOARDS:
            for width, factor in MIXINGS:
                self.check([], width, factor, many=many, fixed=fixed)

    def test_by_hand(self):
        narrow = Mixing(101, factor=7)
        log = [(0, "load", "a", 17), (2, "end", "a", 0), (2, "reset", "fan", 0), (3, "late", "a", 17)]
        self.same(replay(narrow, log), [97, 1, 2, 19])
        self.same(
            replays(narrow, log),
            [[1, 1, 1, 1], [97, 1, 1, 1], [97, 1, 28, 1], [97, 1, 2, 1], [97, 1, 2, 19]],
        )
        self.same(replay(Mixing(), log), [SPAN + 49883, 1, 2, SPAN + 79802])
        self.same(
            shown_rows(log),
            [(False, [("load", "a", 17)]), (False, []), (True, []), (False, [("late", "a", 17)])],
        )
        self.assertIs(leads_to(narrow, log, [97, 1, 2, 19]), True)
        self.assertIs(leads_to(narrow, log, (97, 1, 28, 19)), False)

    def test_one_to_eight_boards(self):
        for many, fixed in BOARDS:
            for place, seed in enumerate((1, 2)):
                width, factor = MIXINGS[(many + fixed * 5 + place * 2) % len(MIXINGS)]
                self.check(standing(seed, many, fixed), width, factor, many=many, fixed=fixed)
                self.check(resets(many, fixed, seed), width, factor, many=many, fixed=fixed)

    def test_wide_and_narrow(self):
        for width, factor in MIXINGS:
            self.check(standing(3), width, factor)
            self.check(resets(), width, factor)
            self.check(some_rows(4, 9, ("load", "set")), width, factor)

    def test_of_sixty_rows_and_more(self):
        for rows in (29, 34):
            self.check(standing(5, rows=rows))
            self.check(standing(5, rows=rows), 101, 7)

    def test_two_resets_of_one_board(self):
        reset = (3, "reset", "fan", 0)
        for width, factor in MIXINGS:
            self.check([LOAD, END, reset, reset], width, factor)
            self.check([LOAD, END, (3, "late", "fan", 5), reset, (3, "late", "fan", 6), reset], width, factor)
            self.check([END, reset, (3, "late", "fan", 6), reset, (3, "late", "fan", 7)], width, factor)

    def test_a_resets_number_is_not_mixed_in(self):
        for width, factor in MIXINGS:
            mixing = Mixing(width, factor=factor)
            for name in ("a", "fan", "zzzz"):
                self.same(replay(mixing, [END, (2, "reset", name, 0)])[2], 2)

    def test_left_out(self):
        log = [LOAD, END, (2, "reset", "fan", 0)]
        self.same(replay(Mixing(), log), replay(Mixing(), log, many=4, fixed=2))
        self.same(len(replay(Mixing(), log, many=7)), 7)
        self.refused(BadLog, 2, replay, Mixing(), log, fixed=3)
        self.refused(BadLog, 2, replay, Mixing(), log, many=2)
        self.same(replay(Mixing(), log, fixed=0), replay(Mixing(), log))

    def test_what_is_told_is_the_askers_own(self):
        for log in ([], standing(6), resets()):
            for mixing in (Mixing(), Mixing(101)):
                self.own(replay, mixing, log)
                self.own(replays, mixing, log)
            self.own(shown_rows, log)
            self.own(shown_rows, log, many=6, fixed=0)

    def test_by_names_alone(self):
        self.by_names_alone(replay, Mixing(), [], 4)
        self.by_names_alone(replays, Mixing(), [], 4)
        self.by_names_alone(leads_to, Mixing(), [], [], 4)
        self.by_names_alone(shown_rows, [], 4)


class Read(Asking):

    def test_read_tells_just_the_shown_rows(self):
        for many, fixed in BOARDS:
            for log in (standing(7, many, fixed), resets(many, fixed)):
                for factor in (7919, 1):
                    boards = replay(Mixing(factor=factor), log, many=many, fixed=fixed)
                    self.same([read(value) for value in boards], shown_rows(log, many=many, fixed=fixed))

    def test_no_other_rows_lead_there_board_by_board(self):
        told = {}
        for seed in range(300):
            log = standing(seed, rows=seed % 4)
            key = tuple(replay(Mixing(), log))
            shown = shown_rows(log)
            self.same(told.setdefault(key, shown), shown)

    def test_a_reset_board_is_told_apart_from_one_that_was_only_started(self):
        for late in ([], [(3, "late", "fan", 5)], [(3, "late", "fan", 5)] * 4):
            started = replay(Mixing(), [END, *late])
            reset = replay(Mixing(), [END, (3, "reset", "fan", 0), *late])
            self.same(started[:3], reset[:3])
            self.assertNotEqual(started[3], reset[3])
            self.same((read(started[3])[0], read(reset[3])[0]), (False, True))


class CantStand(Asking):

    def check(self, log, place, **told):
        self.same(fault(log, **told), place)
        for rows in (log, tuple(log)):
            for width, factor in ((None, 7919), (3, 7919), (101, 7)):
                mixing = Mixing(width, factor=factor)
                asked = {"mixing": mixing, "log": rows}
                self.refused_all_ways(BadLog, place, replay, asked, **told)
                self.refused_all_ways(BadLog, place, replays, asked, **told)
                for values in ([], [1] * told.get("many", 4), [2] * 4):
                    self.assertIs(self.ways(leads_to, {**asked, "values": values}, **told), False)
            self.refused_all_ways(BadLog, place, shown_rows, {"log": rows}, **told)

    def test_at_the_first_a_middle_and_the_last_row(self):
        log = standing(8)
        for place in (0, len(log) // 2, len(log) - 1):
            for thing in NO_ROWS:
                self.check([*log[:place], thing, *log[place + 1:]], place)
            self.check([*log[:place], (4, *log[place][1:]), *log[place + 1:]], place)

    def test_each_way(self):
        self.check([LATE], 0)
        self.check([LOAD, LATE, END], 1)
        self.check([LOAD, END, LOAD], 2)
        self.check([LOAD, END, LATE, END], 3)
        self.check([END, (2, "set", "fan", 5)], 1)
        self.check([LOAD, (3, "reset", "fan", 0)], 1)

    def test_resets_of_fixed_boards(self):
        for many, fixed in BOARDS:
            for board in range(fixed):
                self.check([END, (board, "reset", "fan", 0)], 1, many=many, fixed=fixed)
        for many in range(1, 8):
            self.check([LOAD, (many, "set", "fan", 0)], 1, many=many, fixed=0)

    def test_it_does_not_lead_where_its_rows_would(self):
        for log in ([LATE], [LOAD, LATE, END], [END, END], [LOAD, END, LOAD], [END, (0, "reset", "fan", 0)]):
            self.assertIs(leads_to(Mixing(), log, plain_boards(None, 7919, log)), False)
            self.assertIs(leads_to(Mixing(101), log, plain_boards(101, 7919, log)), False)
        log = [END, (0, "reset", "fan", 0)]
        self.assertIs(leads_to(Mixing(), log, plain_boards(None, 7919, log), fixed=0), True)

    def test_a_row_of_the_number_alone(self):
        # The same numbers on the boards, yet no log of rows.
        row = LOAD
        self.assertEqual(number_of(row), 2529452007)
        self.assertIs(leads_to(Mixing(), [list(row)], replay(Mixing(), [row])), False)


if __name__ == "__main__":
    unittest.main()
