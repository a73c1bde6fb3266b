"""Quotes: what they are, how they are signed, their values by boards [15]."""

import itertools
import random
import unittest

from startlog.names import name_number
from startlog.quotes import is_quote, is_signed, quote_of, values_of
from startlog.signs import sign_of
from tests.samples import NAMES, THINGS, Asking

SIGNS, FOLD = 1000000000039, 1000003

GOOD = ("ann", 3, 7, ((0, 1), (2, 55)), 991)


def with_part(place, thing):
    """A quote with this thing in the place of one part."""
    return (*GOOD[:place], thing, *GOOD[place + 1:])


def plain_sign(key, name, start, number, values):
    """The sign, as [14] and [15] tell it."""
    named = 0
    for letter in name:
        named = named * 27 + ord(letter) - 96
    sign = key
    for one in [named, start, number, *itertools.chain(*values)]:
        sign = (sign * FOLD + one + 1) % SIGNS
    return sign


def some_values(seed):
    """A tuple of pairs (board, value) of rising boards."""
    chance = random.Random(seed)
    boards = [board for board in range(8) if chance.random() < 0.5]
    return tuple((board, chance.choice((0, 1, 2, 10 ** 700, chance.randrange(10 ** 12)))) for board in boards)


class IsQuote(Asking):

    def check(self, thing, told):
        self.assertIs(self.told(is_quote, thing), told, thing)
        self.assertIs(self.told(is_quote, thing=thing), told, thing)

    def test_quotes(self):
        self.check(GOOD, True)
        for name in NAMES:
            self.check(with_part(0, name), True)
        for number in (0, 1, 10 ** 6, 10 ** 6 + 1, SIGNS, 10 ** 700):
            self.check(with_part(1, number), True)
            self.check(with_part(2, number), True)
            self.check(with_part(3, ((5, number),)), True)
        for sign in (0, 1, SIGNS - 1):
            self.check(with_part(4, sign), True)

    def test_all_boards(self):
        for many in range(9):
            for boards in itertools.combinations(range(8), many):
                self.check(with_part(3, tuple((board, 5) for board in boards)), True)

    def test_names(self):
        for name in (*THINGS, "annie", "Ann", "a b", "a0"):
            self.check(with_part(0, name), False)

    def test_numbers(self):
        for number in (-1, -SIGNS, True, False, None, "", "3", [], (), [3], (3,)):
            for place in (1, 2, 4):
                self.check(with_part(place, number), False)
        for sign in (SIGNS, SIGNS + 1, 10 ** 700):
            self.check(with_part(4, sign), False)

    def test_pairs(self):
        for board in (-1, 8, 9, True, False, None, "0", [], (0,)):
            self.check(with_part(3, ((board, 1),)), False)
        for value in (-1, True, False, None, "1", [], (1,)):
            self.check(with_part(3, ((0, value),)), False)
        for pair in ((), (0,), (0, 1, 2), [0, 1], ((0, 1),), None, 0, "01"):
            self.check(with_part(3, (pair,)), False)
            self.check(with_part(3, ((0, 1), pair)), False)

    def test_values(self):
        for thing in THINGS:
            self.check(with_part(3, thing), thing == () and isinstance(thing, tuple))
        for values in ([], [(0, 1)], [(0, 1), (2, 55)], (0, 1), ((0, 1), [2, 55]), ([0, 1],)):
            self.check(with_part(3, values), False)

    def test_boards_that_do_not_rise(self):
        for boards in itertools.product(range(4), repeat=3):
            rising = boards[0] < boards[1] < boards[2]
            self.check(with_part(3, tuple((board, 9 - board) for board in boards)), rising)
        self.check(with_part(3, ((0, 1), (0, 1))), False)
        self.check(with_part(3, ((0, 1), (0, 2))), False)

    def test_more_or_fewer_parts(self):
        for many in range(5):
            self.check(GOOD[:many], False)
        for thing in (*THINGS, 0):
            self.check((*GOOD, thing), False)

    def test_other_kinds(self):
        for thing in (*THINGS, list(GOOD), [GOOD], (GOOD,), GOOD[::-1], "ann 3 7 0:1,2:55 991"):
            self.check(thing, False)


class QuoteOf(Asking):

    def check(self, key, name, start, number, values):
        quote = (name, start, number, values, plain_sign(key, name, start, number, values))
        asked = {"key": key, "name": name, "start": start, "number": number, "values": values}
        self.same(self.ways(quote_of, asked), quote)
        self.assertIs(is_quote(quote), True)
        self.assertIs(self.ways(is_signed, {"key": key, "quote": quote}), True)
        return quote

    def test_by_hand(self):
        self.same(quote_of(0, "a", 0, 0, ()), ("a", 0, 0, (), (2 * FOLD ** 2 + FOLD + 1) % SIGNS))
        self.same(quote_of(0, "a", 0, 0, ())[4], 12999944)
        self.same(
            quote_of(5, "ann", 3, 7, ((0, 1), (2, 55))),
            ("ann", 3, 7, ((0, 1), (2, 55)), sign_of(5, [name_number("ann"), 3, 7, 0, 1, 2, 55])),
        )

    def test_edges(self):
        for key in (0, 1, 10 ** 6, SIGNS - 1):
            for name in NAMES:
                for number in (0, 10 ** 6, 10 ** 700):
                    self.check(key, name, number, 5, ())
                    self.check(key, name, 5, number, ((7, number),))

    def test_beside_a_plain_reckoning(self):
        for seed in range(200):
            chance = random.Random(seed)
            self.check(chance.randrange(10 ** 6), chance.choice(NAMES), chance.randrange(40), chance.randrange(10 ** 6),
                       some_values(seed))

    def test_handed_in_again(self):
        name, start, number, values, sign = quote_of(5, "ann", 3, 7, ((0, 1),))
        self.same(quote_of(5, name, start, number, values)[4], sign)
        self.same(quote_of(sign, name, start, number, values)[4], plain_sign(sign, name, start, number, values))


class IsSigned(Asking):

    def test_by_another_key(self):
        for seed in range(40):
            quote = quote_of(seed, "ann", 3, 7, some_values(seed))
            for key in (0, 1, seed + 1, seed + 999, 10 ** 6):
                self.assertIs(self.told(is_signed, key, quote), key == seed)

    def test_another_sign(self):
        quote = quote_of(5, "ann", 3, 7, ((0, 1),))
        for sign in (0, 1, quote[4] + 1, quote[4] - 1, SIGNS - 1):
            self.assertIs(self.told(is_signed, 5, (*quote[:4], sign)), False)

    def test_one_number_otherwise(self):
        for seed in range(30):
            quote = quote_of(9, "ann", 3, 7, some_values(seed))
            for more in (1, 2, 10 ** 6, SIGNS - 1):
                others = [(*quote[:place], quote[place] + more, *quote[place + 1:]) for place in (1, 2)]
                for place, (board, value) in enumerate(quote[3]):
                    values = (*quote[3][:place], (board, value + more), *quote[3][place + 1:])
                    others.append((*quote[:3], values, quote[4]))
                for other in others:
                    self.assertIs(self.told(is_signed, 9, other), False)

    def test_another_board_or_name(self):
        quote = quote_of(9, "ann", 3, 7, ((2, 5),))
        for board in (0, 1, 3, 7):
            self.assertIs(is_signed(9, (*quote[:3], ((board, 5),), quote[4])), False)
        for name in NAMES:
            self.assertIs(is_signed(9, (name, *quote[1:])), False)

    def test_by_signs_more_it_is_the_same(self):
        quote = quote_of(9, "ann", 3, 7, ((2, 5),))
        self.assertIs(is_signed(9, ("ann", 3, 7 + SIGNS, ((2, 5),), quote[4])), True)


class ValuesOf(Asking):

    def check(self, values, told):
        quote = quote_of(9, "ann", 3, 7, values)
        self.same(self.told(values_of, quote), told)
        self.same(self.told(values_of, quote=quote), told)
        self.own(values_of, quote)

    def test_by_hand(self):
        self.check((), [])
        self.check(((0, 5),), [5])
        self.check(((0, 0),), [0])
        self.check(((3, 5),), [None, None, None, 5])
        self.check(((7, 5),), [None] * 7 + [5])
        self.check(((0, 1), (2, 55)), [1, None, 55])
        self.check(((1, 1), (2, 55)), [None, 1, 55])
        self.check(tuple((board, board * 9) for board in range(8)), [0, 9, 18, 27, 36, 45, 54, 63])

    def test_all_boards(self):
        for many in range(9):
            for boards in itertools.combinations(range(8), many):
                values = tuple((board, 10 + board) for board in boards)
                told = [10 + board if board in boards else None for board in range(max(boards, default=-1) + 1)]
                self.check(values, told)

    def test_it_needs_no_true_sign(self):
        self.same(values_of(GOOD), [1, None, 55])


if __name__ == "__main__":
    unittest.main()
