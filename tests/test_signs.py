"""Signs by folding [14]."""

import random
import unittest

from startlog.signs import sign_of
from tests.samples import Asking

SIGNS, FOLD = 1000000000039, 1000003


def plain(key, numbers):
    """The sign as one sum of powers of FOLD, its rest taken once."""
    many = len(numbers)
    total = key * FOLD ** many
    for place, number in enumerate(numbers):
        total += (number + 1) * FOLD ** (many - 1 - place)
    return total % SIGNS if numbers else key


class Signs(Asking):

    def check(self, key, numbers, sign):
        self.same(self.ways(sign_of, {"key": key, "numbers": list(numbers)}), sign)
        self.same(self.ways(sign_of, {"key": key, "numbers": tuple(numbers)}), sign)

    def test_of_no_numbers_it_is_the_key(self):
        for key in (0, 1, 7, 10 ** 6, 10 ** 6 + 5, SIGNS - 1):
            self.check(key, [], key)

    def test_by_hand(self):
        self.check(0, [0], 1)
        self.check(0, [5], 6)
        self.check(1, [0], 1000004)
        self.check(1, [1, 2], 1000005 * FOLD + 3 - SIGNS)
        self.check(10 ** 6, [0], 1000003000000 + 1 - SIGNS)
        self.check(0, [SIGNS - 1], 0)
        self.check(0, [SIGNS - 2], SIGNS - 1)
        self.check(0, [SIGNS], 1)
        self.check(0, [0, 0], FOLD + 1)

    def test_as_told(self):
        chance = random.Random(1)
        for many in range(12):
            for key in (0, 1, 10 ** 6, SIGNS - 1, chance.randrange(10 ** 6)):
                numbers = [chance.choice((0, 1, SIGNS - 1, SIGNS, 10 ** 700, chance.randrange(10 ** 6)))
                           for _ in range(many)]
                self.check(key, numbers, plain(key, numbers))

    def test_many_numbers(self):
        self.check(5, [7] * 500, plain(5, [7] * 500))

    def test_a_sign_may_be_a_key(self):
        chance = random.Random(2)
        for _ in range(50):
            numbers = [chance.randrange(10 ** 9) for _ in range(8)]
            for place in range(1, 9):
                self.same(sign_of(sign_of(77, numbers[:place]), numbers[place:]), sign_of(77, numbers))

    def test_from_0_below_signs(self):
        chance = random.Random(3)
        for _ in range(300):
            sign = sign_of(chance.randrange(10 ** 6), [chance.randrange(10 ** 15) for _ in range(3)])
            self.assertTrue(0 <= sign < SIGNS)

    def test_one_otherwise_is_another_sign(self):
        numbers = [5, 0, 17, 10 ** 6]
        for place in range(4):
            for more in (1, 2, 10 ** 6, SIGNS - 1):
                other = [*numbers[:place], numbers[place] + more, *numbers[place + 1:]]
                self.assertNotEqual(sign_of(9, other), sign_of(9, numbers))
            other = [*numbers[:place], numbers[place] + SIGNS, *numbers[place + 1:]]
            self.assertEqual(sign_of(9, other), sign_of(9, numbers))
        self.assertNotEqual(sign_of(10, numbers), sign_of(9, numbers))


if __name__ == "__main__":
    unittest.main()
