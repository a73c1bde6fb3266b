"""Measures, and bodies of a measure [4]."""

import unittest

from startlog.measures import bodies, measure
from tests.samples import Asking

BODIES = (0, 1, 2, 11, 17, 9971, 9972, 9973, 9974, 19946, 10 ** 6 - 1, 10 ** 6, 10 ** 6 + 1, 10 ** 30)


class Measure(Asking):

    def test_by_hand(self):
        for body, note in ((0, 11), (1, 8390), (2, 6796), (9972, 1605), (9973, 11), (9974, 8390)):
            with self.subTest(body):
                self.same(self.told(measure, body), note)

    def test_as_told(self):
        for body in BODIES:
            self.same(self.told(measure, body), (body * 48271 + 11) % 9973)

    def test_by_name(self):
        self.same(self.told(measure, body=1), 8390)

    def test_alike_where_9973_apart(self):
        for body in BODIES:
            self.assertEqual(measure(body), measure(body + 9973))
            self.assertEqual(measure(body), measure(body + 9973 * 10 ** 9))

    def test_unlike_below_9973(self):
        self.assertEqual(sorted(measure(body) for body in range(9973)), list(range(9973)))


class Bodies(Asking):

    def test_of_every_note(self):
        for body in range(9973):
            self.assertEqual(bodies(measure(body)), body)

    def test_least_left_out(self):
        for note, body in ((11, 0), (8390, 1), (6796, 2), (1605, 9972)):
            self.same(self.told(bodies, note), body)
            self.same(self.told(bodies, note=note), body)
            self.same(self.told(bodies, note, least=0), body)

    def test_its_own_least_body_as_least_and_one_more(self):
        for note in (0, 1, 10, 11, 12, 17, 1605, 8390, 9971, 9972):
            first = bodies(note)
            with self.subTest(note):
                self.same(self.told(bodies, note, least=first), first)
                self.same(self.told(bodies, note, least=first + 1), first + 9973)
                self.same(self.told(bodies, least=first + 9973, note=note), first + 9973)
                self.same(self.told(bodies, note=note, least=first + 9974), first + 2 * 9973)

    def test_great_ones_as_least(self):
        for note in (0, 11, 5000, 9972):
            for least in (9972, 9973, 10 ** 6 - 1, 10 ** 6, 10 ** 6 + 1, 10 ** 40):
                body = self.told(bodies, note, least=least)
                self.assertEqual(measure(body), note)
                self.assertTrue(least <= body < least + 9973)
                self.assertIs(type(body), int)

    def test_least_by_its_name_alone(self):
        self.by_names_alone(bodies, 11, 0)


if __name__ == "__main__":
    unittest.main()
