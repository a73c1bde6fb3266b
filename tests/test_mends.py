"""Steps of a log, mends, and where a log parts from its boards [11], [1] (b)."""

import random
import unittest

from startlog.errors import BadLog, BadStep, NoBoard
from startlog.mends import first_parted, mended, mends
from startlog.mixing import Mixing
from startlog.replays import leads_to, replay, shown_rows
from tests.samples import BOARDS, MIXINGS, NO_ROWS, SPAN, THINGS, WORDS, Asking, plain_boards, some_rows, standing

A, B, C = (0, "load", "boot", 17), (1, "set", "fan", 5), (0, "end", "kern", 0)
LATE, RESET = (2, "late", "fan", 9), (3, "reset", "fan", 0)

# Lists of rows, most of which can't stand.
LOGS = ([], [A], [C, A], [A, A, A], [LATE, RESET], [A, B, C, LATE, RESET], some_rows(1, 6, WORDS, boards=8))


def stands(log, many, fixed):
    """Whether a list of rows can stand, by [8]."""
    words = [row[1] for row in log]
    ends = [place for place, word in enumerate(words) if word == "end"]
    if len(ends) > 1 or any(row[0] >= many for row in log):
        return False
    head, tail = (words[:ends[0]], words[ends[0] + 1:]) if ends else (words, [])
    kept = all(row[0] >= fixed for row in log if row[1] == "reset")
    return set(head) <= {"load", "set"} and set(tail) <= {"late", "reset"} and kept


def plain_steps(log, some):
    """All steps and the logs behind them, in the told order."""
    log = list(log)
    told = []
    for place in range(len(log)):
        told.append((("out", place), log[:place] + log[place + 1:]))
    for place in range(len(log) + 1):
        told.extend((("put", place, row), log[:place] + [row] + log[place:]) for row in some)
    for place in range(len(log)):
        told.extend((("turn", place, row), log[:place] + [row] + log[place + 1:]) for row in some if row != log[place])
    for place in range(len(log)):
        rest = log[:place] + log[place + 1:]
        told.extend((("move", place, to), rest[:to] + [log[place]] + rest[to:])
                    for to in range(len(log)) if to != place)
    return told


def plain_mends(width, factor, log, values, some, many=4, fixed=2):
    """The steps behind which the rows, reckoned by themselves, can stand and lead there."""
    return [
        step for step, rows in plain_steps(log, some)
        if stands(rows, many, fixed) and plain_boards(width, factor, rows, many) == list(values)
    ]


class Mended(Asking):

    def check(self, log, step, behind):
        self.same(self.ways(mended, {"log": log, "step": step}), behind)
        self.same(self.told(mended, tuple(log), step), behind)

    def test_by_hand(self):
        self.check([A, B, C], ("out", 0), [B, C])
        self.check([A, B, C], ("out", 2), [A, B])
        self.check([A], ("out", 0), [])
        self.check([], ("put", 0, A), [A])
        self.check([A, B], ("put", 0, C), [C, A, B])
        self.check([A, B], ("put", 1, A), [A, A, B])
        self.check([A, B], ("put", 2, C), [A, B, C])
        self.check([A, B, C], ("turn", 1, LATE), [A, LATE, C])
        self.check([A, B, C], ("move", 0, 2), [B, C, A])
        self.check([A, B, C], ("move", 0, 1), [B, A, C])
        self.check([A, B, C], ("move", 2, 0), [C, A, B])
        self.check([A, B, C], ("move", 1, 2), [A, C, B])
        self.check([A, A], ("move", 0, 1), [A, A])

    def test_all_steps(self):
        for log in LOGS:
            for step, behind in plain_steps(log, [A, B, RESET, (7, "late", "zzzz", 9972)]):
                self.check(log, step, behind)

    def test_the_same_row_on_another_board_is_unlike(self):
        self.check([A], ("turn", 0, (1, *A[1:])), [(1, *A[1:])])

    def test_of_many_rows(self):
        log = some_rows(2, 75, WORDS)
        self.check(log, ("move", 74, 0), [log[74], *log[:74]])
        self.check(log, ("put", 75, A), [*log, A])

    def test_what_is_told_is_the_askers_own(self):
        for step in (("out", 1), ("put", 1, C), ("turn", 1, C), ("move", 1, 0)):
            self.own(mended, [A, B, C][:2], step)


class NoStep(Asking):

    def check(self, log, *steps):
        for step in steps:
            self.refused(BadStep, step, mended, log, step)
            self.refused(BadStep, step, mended, tuple(log), step)
            self.refused(BadStep, step, mended, step=step, log=log)

    def test_places_that_are_not_there(self):
        for log in LOGS:
            many = len(log)
            for place in (-1, -many, -many - 1, many, many + 1, 10 ** 9):
                self.check(log, ("out", place), ("turn", place, (5, "set", "q", 1)), ("move", place, 0))
                self.check(log, ("move", 0, place))
                if place != many:
                    self.check(log, ("put", place, A))

    def test_a_turn_into_the_same_row(self):
        for log in LOGS:
            for place, row in enumerate(log):
                self.check(log, ("turn", place, row))

    def test_a_move_to_the_same_place(self):
        for log in LOGS:
            for place in range(len(log)):
                self.check(log, ("move", place, place))

    def test_what_is_no_row(self):
        for thing in NO_ROWS:
            for place in (0, 1, 2):
                self.check([A, B, C], ("put", place, thing), ("turn", place, thing))

    def test_what_is_no_place(self):
        for thing in [thing for thing in THINGS if type(thing) is not int]:
            self.check([A, B, C], ("out", thing), ("put", thing, C), ("turn", thing, LATE), ("move", thing, 2),
                       ("move", 2, thing))

    def test_more_or_fewer_parts(self):
        self.check([A, B, C], (), ("out",), ("put",), ("turn",), ("move",), ("out", 0, 0), ("out", 0, A), ("put", 0),
                   ("turn", 0), ("move", 0), ("put", 0, A, A), ("turn", 0, B, B), ("move", 0, 1, 2), ("out", 0, None))

    def test_other_words(self):
        for word in ("", "Out", "out ", "swap", "in", 0, None, True, ["out"], ("out",), [], ("move", 0, 1)):
            self.check([A, B, C], (word, 0), (word, 0, 1), (word, 0, LATE))

    def test_words_exchanged(self):
        self.check([A, B, C], ("out", 0, 1), ("put", 0, 1), ("turn", 0, 1), ("move", 0, LATE))

    def test_lists_and_things_of_all_kinds(self):
        self.check([A, B, C], ["out", 0], ["put", 0, A], ["turn", 0, B], ["move", 0, 1], ("put", 0, list(A)),
                   ("turn", 0, list(B)), [("out", 0)], (("out", 0),))
        for log in LOGS:
            self.check(log, *THINGS, *[(thing, thing) for thing in THINGS], *[(thing,) * 3 for thing in THINGS])


class Mends(Asking):

    def check(self, width, factor, log, values, some, **told):
        steps = plain_mends(width, factor, log, values, some, **told)
        mixing = Mixing(width, factor=factor)
        asked = {"mixing": mixing, "log": log, "values": values, "some": some}
        self.same(self.ways(mends, asked, **told), steps)
        self.same(self.told(mends, mixing, tuple(log), tuple(values), tuple(some), **told), steps)
        for step in steps:
            self.assertIs(leads_to(mixing, mended(log, step), values, **told), True)
        return steps

    def test_by_hand(self):
        true = [A, B, C, LATE]
        values = replay(Mixing(), true)
        self.same(mends(Mixing(), [A, B, C], values, [LATE, B]), [("put", 3, LATE)])
        self.same(mends(Mixing(), [A, B, C], values, [B]), [])
        self.same(mends(Mixing(), [A, A, B, C, LATE], values, []), [("out", 0), ("out", 1)])
        self.same(mends(Mixing(), [A, C, C, LATE], values, [B]), [("turn", 1, B)])
        self.same(mends(Mixing(), [B, C, LATE], values, [C, A]), [("put", 0, A), ("put", 1, A)])
        self.same(mends(Mixing(), [B, A, C, LATE], values, []), [("move", 0, 1), ("move", 1, 0)])

    def test_of_the_log_itself(self):
        # A log that leads there is mended by what leaves it leading there.
        values = replay(Mixing(), [A, A, B])
        self.same(mends(Mixing(), [A, A, B], values, [A]),
                  [("move", 0, 1), ("move", 0, 2), ("move", 1, 0), ("move", 1, 2), ("move", 2, 0), ("move", 2, 1)])
        self.same(mends(Mixing(), [A, A], replay(Mixing(), [A, A]), [A]), [("move", 0, 1), ("move", 1, 0)])
        self.same(mends(Mixing(), [A], replay(Mixing(), [A]), [A]), [])

    def test_of_a_bare_log(self):
        for width, factor in MIXINGS:
            self.check(width, factor, [], [1, 1, 1, 1], [A, B])
            self.check(width, factor, [], plain_boards(width, factor, [A]), [B, A, C])
        self.same(mends(Mixing(), [], [1] * 4, []), [])

    def test_each_step_back_is_among_them(self):
        chance = random.Random(3)
        for seed in range(25):
            many, fixed = BOARDS[seed * 7 % len(BOARDS)]
            true = standing(seed, many, fixed, rows=3)
            for width, factor in (MIXINGS[seed % len(MIXINGS)], (None, 7919)):
                values = plain_boards(width, factor, true, many)
                some = [*dict.fromkeys(chance.sample(true, 5))]
                bent = plain_steps(true, some_rows(seed, 3, WORDS, boards=many))
                for step, log in chance.sample(bent, 4):
                    steps = self.check(width, factor, log, values, some, many=many, fixed=fixed)
                    self.assertTrue(steps or step[0] in ("out", "turn"))

    def test_logs_that_cant_stand(self):
        true = [A, B, C, LATE, RESET, (3, "late", "q", 5)]
        for width, factor in MIXINGS:
            values = plain_boards(width, factor, true)
            for place in (0, 2, 5):
                for row in (LATE, C, (7, "set", "q", 5), (0, "reset", "q", 0)):
                    log = [*true[:place], row, *true[place:]]
                    self.assertIn(("out", place), self.check(width, factor, log, values, [A, LATE]))
                log = [*true[:place], (5, "late", "q", 5), *true[place + 1:]]
                steps = self.check(width, factor, log, values, [true[place]])
                self.assertIn(("turn", place, true[place]), steps)

    def test_rows_of_some_by_which_it_cant_stand(self):
        values = replay(Mixing(), [A, B])
        self.same(mends(Mixing(), [A, B], values, [LATE, RESET, (7, "load", "q", 1), (0, "reset", "q", 0)]),
                  [("move", 0, 1), ("move", 1, 0)])

    def test_steps_that_no_board_tells(self):
        # By a reset all rows ahead of it are wiped off the board, so that any may stand there.
        true = [(3, "set", "q", 5), C, RESET]
        for width, factor in MIXINGS:
            steps = self.check(width, factor, true, plain_boards(width, factor, true), [(3, "set", "q", 6)])
            for step in (("out", 0), ("put", 0, (3, "set", "q", 6)), ("turn", 0, (3, "set", "q", 6))):
                self.assertIn(step, steps)

    def test_narrow_ones_of_few_numbers(self):
        some = [(0, "load", "a", note) for note in range(6)]
        log = [some[0], some[3], some[5], C]
        for width in (3, 4, 5):
            for board in range(width):
                self.check(width, 1, log, [board, 1, 1, 1], some)

    def test_one_to_eight_boards(self):
        for many, fixed in BOARDS:
            true = standing(many, many, fixed, rows=2)
            self.check(None, 7919, true[1:], plain_boards(None, 7919, true, many), true[:2], many=many, fixed=fixed)

    def test_values_that_nothing_leads_to(self):
        for values in ([0, 0, 0, 0], [1, 1, 1], [1] * 5, [], [3, 1, 1, 1], [SPAN] * 4):
            self.same(mends(Mixing(), [A, B, C], values, [A, B, C]), [])

    def test_of_sixteen_rows_and_more(self):
        for rows in (7, 9):
            true = standing(5, rows=rows)
            some = [*dict.fromkeys(true)][:6]
            self.check(None, 7919, true[1:], plain_boards(None, 7919, true), some)
            self.check(101, 7, [*true[:3], *true[4:]], plain_boards(101, 7, true), some)

    def test_left_out(self):
        true = [(3, "set", "q", 5), C, (2, "reset", "q", 0)]
        values = replay(Mixing(), true)
        self.same(mends(Mixing(), true[:2], values, true), [("put", 2, true[2])])
        self.same(mends(Mixing(), true[:2], values, true, fixed=3), [])
        self.same(mends(Mixing(), true[:2], values, true, many=5), [])
        self.same(mends(Mixing(), true[:2], [*values, 1], true, many=5), [("put", 2, true[2])])

    def test_what_is_told_is_the_askers_own(self):
        self.own(mends, Mixing(), [A, A], replay(Mixing(), [A]), [A])

    def test_by_names_alone(self):
        self.by_names_alone(mends, Mixing(), [], [1] * 4, [], 4)
        self.by_names_alone(first_parted, Mixing(), [], [1] * 4, 4)


class FirstParted(Asking):

    def check(self, log, values, parted, factor=7919, **told):
        mixing = Mixing(factor=factor)
        for rows in (log, tuple(log)):
            self.same(self.ways(first_parted, {"mixing": mixing, "log": rows, "values": values}, **told), parted)
            self.same(self.told(first_parted, mixing, rows, tuple(values), **told), parted)

    def test_where_it_leads_there(self):
        for many, fixed in BOARDS:
            log = standing(many, many, fixed)
            self.check(log, replay(Mixing(), log, many=many, fixed=fixed), None, many=many, fixed=fixed)
            self.check([], [1] * many, None, many=many, fixed=fixed)
        self.check([], [1, 1, 1, 1], None)

    def test_by_hand(self):
        true = [A, B, A, C, LATE]
        boards = replay(Mixing(), true)
        self.check(true, boards, None)
        self.check([], boards, (0, 0))
        self.check([A], boards, (0, 1))
        self.check([A, A], boards, (0, 2))
        self.check([A, A, C], boards, (1, 0))
        self.check([A, A, B, C], boards, (2, 0))
        self.check([A, (0, "load", "boot", 18), B, C], boards, (0, 1))
        self.check([A, A, (0, "set", "kern", 0)], boards, (0, 2))
        self.check([*true, LATE], boards, (2, 1))
        self.check([*true, (0, "late", "q", 5)], boards, (0, 3))
        self.check([A, B, A, B, C, LATE], boards, (1, 1))

    def test_where_one_is_reset(self):
        late = (3, "late", "q", 5)
        reset, started = replay(Mixing(), [C, RESET, late]), replay(Mixing(), [C, late])
        self.check([C, late], reset, (3, -1))
        self.check([C, RESET, late], started, (3, -1))
        self.check([C], reset, (3, -1))
        self.check([C, RESET], reset, (3, 0))
        self.check([C, late, RESET], reset, (3, 0))
        self.check([C, RESET, late, late], reset, (3, 1))
        self.check([A, C, RESET, late], started, (0, 0))
        self.check([C, RESET, late, RESET, late], reset, None)

    def test_the_least_board(self):
        for many, fixed in BOARDS:
            log = standing(9, many, fixed)
            boards = replay(Mixing(), log, many=many, fixed=fixed)
            shown = shown_rows(log, many=many, fixed=fixed)
            for board in range(many):
                values = [*boards[:board], *[value * SPAN + 49866 for value in boards[board:]]]
                self.check(log, values, (board, len(shown[board][1])), many=many, fixed=fixed)
                other = 1 if shown[board][0] else 2
                self.check(log, [*boards[:board], other, *boards[board + 1:]], (board, -1), many=many, fixed=fixed)

    def test_beside_a_plain_reckoning(self):
        for seed in range(60):
            log, true = standing(seed, rows=4), standing(seed + seed % 3, rows=4)
            for step, behind in random.Random(seed).sample(plain_steps(true, [A, LATE]), 5):
                if not stands(behind, 4, 2):
                    continue
                shown, own = shown_rows(log), shown_rows(behind)
                parted = [board for board in range(4) if shown[board] != own[board]]
                told = None
                if parted:
                    (is_reset, rows), (other_reset, others) = shown[parted[0]], own[parted[0]]
                    many = max(k for k in range(min(len(rows), len(others)) + 1) if rows[:k] == others[:k])
                    told = (parted[0], many if is_reset == other_reset else -1)
                self.check(log, replay(Mixing(), behind), told)

    def test_any_factor(self):
        self.check([A, B], replay(Mixing(factor=7), [A]), (1, 0), factor=7)
        self.check([A, B], replay(Mixing(factor=7), [A, B]), None, factor=7)

    def test_no_boards(self):
        log = [A, B, C]
        boards = replay(Mixing(), log)
        for value in (0, 3, 17, SPAN, SPAN + 1, 3 * SPAN + 49866, SPAN + 89758, 10 ** 700):
            for board in range(4):
                for values in ([*boards[:board], value, *boards[board + 1:]], [1] * board + [value] * (4 - board)):
                    asked = {"mixing": Mixing(), "log": log, "values": values}
                    self.refused_all_ways(NoBoard, value, first_parted, asked)

    def test_the_first_of_several(self):
        self.refused(NoBoard, 7, first_parted, Mixing(), [A], [1, 7, 0, 3])
        self.refused(NoBoard, 0, first_parted, Mixing(), [A], (1, 1, 0, 3))

    def test_no_board_goes_ahead_of_all(self):
        # The log parts at an earlier board, or can't stand.
        self.refused(NoBoard, 5, first_parted, Mixing(), [A], [2, 2, 2, 5])
        for log in ([LATE], [None], [A, C, C]):
            self.refused(NoBoard, 5, first_parted, Mixing(), log, [1, 1, 1, 5])

    def test_left_out(self):
        log = [C, (2, "reset", "q", 0)]
        boards = replay(Mixing(), log)
        self.check(log, boards, None)
        self.check(log, boards, None, many=4, fixed=2)
        self.check(log, [*boards, 1, 2], (5, -1), many=6)
        with self.assertRaises(BadLog):
            first_parted(Mixing(), log, boards, fixed=3)


if __name__ == "__main__":
    unittest.main()
