"""Other logs that lead to the same number, and how many there are [10], [1] (a)."""

import itertools
import random
import unittest

from startlog.mixing import Mixing
from startlog.others import count_logs, hidden, other_log
from tests.samples import MIXINGS, Asking, number_of, plain_mixed, rows_of, some_rows

NARROW = [(width, factor) for width, factor in MIXINGS if width is not None and width <= 500]


def loads(*notes, name="a"):
    """Rows of these notes, of board 0 and word load."""
    return [(0, "load", name, note) for note in notes]


def plain_end(width, factor, rows):
    """Board 0's number behind these rows."""
    value = 1
    for row in rows:
        value = plain_mixed(width, factor, value, row)
    return value


def plain_other(width, factor, log, some):
    """All logs of some in the told order, the first other one that leads to the same number."""
    end = plain_end(width, factor, log)
    for many in range(len(log) + 1):
        for rows in itertools.product(some, repeat=many):
            if list(rows) != list(log) and plain_end(width, factor, rows) == end:
                return list(rows)
    return None


def plain_count(width, factor, value, some, many):
    """All lists of so many places, those counted that lead there."""
    return sum(plain_end(width, factor, rows) == value for rows in itertools.product(some, repeat=many))


def unlike_loads(seed, many):
    """So many unlike rows of board 0 and word load."""
    chance = random.Random(seed)
    told = []
    while len(told) < many:
        row = (0, "load", chance.choice(("a", "fan", "zzzz")), chance.choice((0, 9972, chance.randrange(9973))))
        if row not in told:
            told.append(row)
    return told


class OtherLog(Asking):

    def check(self, width, factor, log, some):
        mixing = Mixing(width, factor=factor)
        other = plain_other(width, factor, log, some)
        self.same(self.ways(other_log, {"mixing": mixing, "log": log, "some": some}), other)
        self.same(self.told(other_log, mixing, tuple(log), tuple(some)), other)
        return other

    def test_of_a_bare_log_there_is_none(self):
        for width, factor in NARROW:
            self.assertIsNone(self.check(width, factor, [], []))
            self.assertIsNone(self.check(width, factor, [], loads(0, 1, 2)))

    def test_of_no_rows_the_bare_one_alone_may_be(self):
        for width, factor in NARROW:
            for note in range(0, 120, 7):
                other = self.check(width, factor, loads(note), [])
                self.assertIn(other, (None, []))

    def test_by_hand(self):
        # Of width 3 and factor 1 the rows' figures, 49865 + note + 1 by 3, are summed:
        # note 0 adds 0, 1 adds 1, 2 adds 2.
        zero, one, two = loads(0, 1, 2)
        mixing = Mixing(3, factor=1)
        self.same(other_log(mixing, [zero], [zero, one, two]), [])
        self.same(other_log(mixing, [one], [zero, one, two]), None)
        self.same(other_log(mixing, [one, one], [zero, one, two]), [two])
        self.same(other_log(mixing, [one, one], [zero, one]), None)
        self.same(other_log(mixing, [one, zero], [zero, one]), [one])
        self.same(other_log(mixing, [one, two], [one, two]), [])
        self.same(other_log(mixing, [one, one, one], [one]), [])
        self.same(other_log(mixing, [one, one], [one]), None)
        self.same(other_log(mixing, [one], loads(4, 7)), loads(4))
        self.same(other_log(mixing, [one], [one, *loads(4, 7)]), loads(4))
        self.same(other_log(mixing, [one], loads(7, 1, 4)), loads(7))

    def test_the_first_of_like_length_by_places_in_some(self):
        # Rows that are alike: the log itself is first, amid or last by the places in some.
        one, two = loads(5, 5 + 101)
        for log in itertools.product((one, two), repeat=3):
            for some in ([one, two], [two, one]):
                self.check(101, 7, list(log), some)
        mixing = Mixing(101, factor=7)
        self.same(other_log(mixing, [one, one], [one, two]), [one, two])
        self.same(other_log(mixing, [one, two], [one, two]), [one, one])
        self.same(other_log(mixing, [one, one], [two, one]), [two, two])
        self.same(other_log(mixing, [two, two], [two, one]), [two, one])

    def test_rows_of_the_log_that_are_none_of_some(self):
        one, two, three = loads(5, 5 + 101, 5 + 202)
        self.same(other_log(Mixing(101), [one, three], [one, two]), [one, one])
        self.same(other_log(Mixing(101), [three, one], [two, one]), [two, two])
        for seed in range(60):
            width, factor = NARROW[seed % len(NARROW)]
            self.check(width, factor, unlike_loads(seed, 3), unlike_loads(seed + 100, 3))

    def test_beside_a_plain_reckoning(self):
        chance = random.Random(1)
        found = {True: 0, False: 0}
        for seed in range(250):
            width = chance.choice((3, 4, 5, 7, 11, 31, 101, 360, 499, 500))
            some = unlike_loads(seed, seed % 5)
            log = [chance.choice(some) for _ in range(chance.randint(0, 4))] if some else []
            found[self.check(width, 7919, log, some) is None] += 1
        self.assertGreater(min(found.values()), 30)

    def test_eight_rows_of_six(self):
        for width, factor in NARROW:
            some = unlike_loads(width, 6)
            log = [some[5]] * 8
            other = other_log(Mixing(width, factor=factor), log, some)
            self.same(other, plain_other(width, factor, log, some))
            self.assertEqual(plain_end(width, factor, other), plain_end(width, factor, log))
        for width, some in ((500, loads(1, 2)), (499, loads(3, 8))):
            self.check(width, 7919, [some[1]] * 8, some)

    def test_somewhat_beyond_the_bounds(self):
        some = unlike_loads(3, 8)
        log = [some[7]] * 12
        for width in (500, 601, 997):
            other = other_log(Mixing(width), log, some)
            self.assertEqual(plain_end(width, 7919, other), plain_end(width, 7919, log))

    def test_handed_in_again(self):
        mixing = Mixing(101)
        some = loads(5, 5 + 101)
        other = other_log(mixing, [some[1]], some)
        self.same(other_log(mixing, other, some), [some[1]])

    def test_what_is_told_is_the_askers_own(self):
        some = loads(5, 5 + 101)
        self.own(other_log, Mixing(101), [some[1], some[0]], some)
        self.own(other_log, Mixing(3, factor=1), loads(0), loads(0))


class CountLogs(Asking):

    def check(self, width, factor, value, some, many):
        mixing = Mixing(width, factor=factor)
        count = plain_count(width, factor, value, some, many)
        asked = {"mixing": mixing, "value": value, "some": some, "many": many}
        self.same(self.ways(count_logs, asked), count)
        self.same(self.told(count_logs, mixing, value, tuple(some), many), count)

    def test_of_no_places(self):
        for width, factor in NARROW:
            for value in (0, 1, 2, width - 1, width, width + 1, 10 ** 9):
                for some in ([], loads(1, 2, 3)):
                    self.same(count_logs(Mixing(width, factor=factor), value, some, 0), 1 if value == 1 else 0)

    def test_of_no_rows(self):
        for value in (0, 1, 2):
            for many in (1, 2, 40):
                self.same(count_logs(Mixing(3), value, [], many), 0)

    def test_by_hand(self):
        mixing = Mixing(3, factor=1)
        self.same([count_logs(mixing, value, loads(0, 1, 2), 1) for value in range(4)], [1, 1, 1, 0])
        self.same([count_logs(mixing, value, loads(0, 1, 2), 40) for value in range(4)], [3 ** 39] * 3 + [0])
        self.same([count_logs(mixing, value, loads(1), 5) for value in range(4)], [1, 0, 0, 0])
        self.same([count_logs(mixing, value, loads(1, 4), 2) for value in range(4)], [4, 0, 0, 0])

    def test_beside_a_plain_reckoning(self):
        for seed in range(80):
            width, factor = NARROW[seed % len(NARROW)]
            some = unlike_loads(seed, seed % 5)
            for many in range(5):
                for value in sorted({0, 1, width - 1, width, plain_end(width, factor, some[:1] * many)}):
                    self.check(width, factor, value, some, many)

    def test_all_together_are_all_lists(self):
        for width, factor in NARROW:
            for many in (1, 5, 12, 40):
                some = unlike_loads(many, 6)
                counts = [count_logs(Mixing(width, factor=factor), value, some, many) for value in range(0, width)]
                self.assertEqual(sum(counts), 6 ** many)
                if width > 100:
                    break

    def test_from_the_width_on(self):
        for width, factor in NARROW:
            for value in (width, width + 1, 2 * width, 10 ** 700):
                self.same(count_logs(Mixing(width, factor=factor), value, loads(1, 2), 3), 0)

    def test_two_of_one_kind_are_two_places(self):
        row = loads(5)[0]
        value = plain_end(101, 7919, [row, row])
        self.same(count_logs(Mixing(101), value, [row, row], 2), 4)

    def test_forty_rows_of_six(self):
        some = unlike_loads(4, 6)
        counts = {1: 1}
        for _ in range(40):
            behind = [(plain_mixed(500, 7919, value, row), count) for value, count in counts.items() for row in some]
            counts = {value: 0 for value, count in behind}
            for value, count in behind:
                counts[value] += count
        self.assertEqual(sum(counts.values()), 6 ** 40)
        for value in range(0, 520, 13):
            self.same(count_logs(Mixing(500), value, some, 40), counts.get(value, 0))


class Hidden(Asking):

    def check(self, mixing, some, pairs):
        self.same(self.ways(hidden, {"mixing": mixing, "some": some}), pairs)
        self.same(self.told(hidden, mixing, tuple(some)), pairs)

    def test_by_hand(self):
        mixing = Mixing(101)
        self.check(mixing, [], [])
        self.check(mixing, loads(5), [])
        self.check(mixing, loads(5, 106), [(0, 1)])
        self.check(mixing, loads(5, 106, 207), [(0, 1), (0, 2), (1, 2)])
        self.check(mixing, loads(207, 6, 106, 107, 5), [(0, 2), (0, 4), (1, 3), (2, 4)])
        self.check(Mixing(), loads(207, 6, 106, 107, 5), [])

    def test_like_rows_are_no_pair(self):
        for width, factor in MIXINGS:
            self.check(Mixing(width, factor=factor), loads(5, 5), [])
        self.check(Mixing(101), loads(5, 5, 106), [(0, 2), (1, 2)])

    def test_on_other_boards(self):
        some = [(board, "late", "fan", 5) for board in (3, 0, 7)]
        for width, factor in MIXINGS:
            self.check(Mixing(width, factor=factor), some, [(0, 1), (0, 2), (1, 2)])

    def test_of_any_rows(self):
        everything = [*rows_of(("load", "set", "end", "late", "reset"))[::9], *some_rows(1, 20, ("load", "reset"))]
        for width, factor in MIXINGS:
            pairs = []
            for place, row in enumerate(everything):
                for other in range(place + 1, len(everything)):
                    apart = number_of(row) - number_of(everything[other])
                    alike = apart == 0 if width is None else apart % width == 0
                    if alike and row != everything[other]:
                        pairs.append((place, other))
            self.check(Mixing(width, factor=factor), everything, pairs)
            self.assertEqual(pairs, sorted(pairs))

    def test_pairs_are_not_told_apart_by_any_log(self):
        some = unlike_loads(9, 6) + loads(5, 106)
        for place, other in hidden(Mixing(101), some):
            log = [some[place], some[0]]
            self.assertEqual(plain_end(101, 7919, log), plain_end(101, 7919, [some[other], some[0]]))

    def test_what_is_told_is_the_askers_own(self):
        self.own(hidden, Mixing(101), loads(5, 106, 207))
        self.own(hidden, Mixing(), [])


if __name__ == "__main__":
    unittest.main()
