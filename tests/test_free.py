"""The orders of a log's rows that a policy leaves free [18], [1] (c)."""

import itertools
import unittest

from startlog.free import binds, orders
from startlog.verdicts import fits
from tests.policies import FEW_NAMES, plain_fits, row, rows, seeded, some_log, some_policy, some_rule
from tests.samples import Asking

# A rule, two names, and whether it binds them.
BY_HAND = [
    (("ahead", "a", "b"), "a", "b", True), (("ahead", "a", "b"), "b", "a", True), (("ahead", "a", "b"), "a", "a", False),
    (("ahead", "a", "b"), "b", "b", False), (("ahead", "a", "b"), "a", "c", False),
    (("ahead", "a", "b"), "c", "b", False), (("ahead", "a", "b"), "c", "d", False),
    (("ahead", "a", "a"), "a", "a", False), (("ahead", "a", "a"), "a", "b", False),
    (("never", "a", "b"), "a", "b", True), (("never", "a", "b"), "b", "a", True), (("never", "a", "b"), "b", "b", False),
    (("never", "a", "b"), "a", "c", False), (("never", "a", "a"), "a", "a", False),
    (("next", "a", "b"), "a", "b", True), (("next", "a", "b"), "b", "a", True), (("next", "a", "b"), "a", "a", True),
    (("next", "a", "b"), "b", "b", True), (("next", "a", "b"), "a", "c", True), (("next", "a", "b"), "c", "a", True),
    (("next", "a", "b"), "b", "c", True), (("next", "a", "b"), "c", "b", True), (("next", "a", "b"), "c", "d", False),
    (("next", "a", "b"), "c", "c", False), (("next", "a", "a"), "a", "a", True), (("next", "a", "a"), "b", "a", True),
    (("next", "a", "a"), "a", "b", True), (("next", "a", "a"), "b", "c", False),
    (("must", "a"), "a", "a", False), (("must", "a"), "a", "b", False), (("only", ("a", "b")), "a", "b", False),
    (("note", "a", (5,)), "a", "b", False), (("most", "a", 0), "a", "a", False), (("most", "a", 3), "a", "b", False),
]


def plain_binds(policy, one, two):
    """Whether two rows are bound, as [18] tells it."""
    pair = {one[2], two[2]}
    for rule in policy:
        if rule[0] in ("ahead", "never") and len(pair) == 2 and set(rule[1:]) == pair:
            return True
        if rule[0] == "next" and set(rule[1:]) & pair:
            return True
    return False


def gone_to(policy, log):
    """All logs that are come to by going from log to log, one exchange at a time."""
    seen = [list(log)]
    for one in seen:
        for place in range(len(one) - 1):
            if not plain_binds(policy, one[place], one[place + 1]):
                other = [*one[:place], one[place + 1], one[place], *one[place + 2:]]
                if other not in seen:
                    seen.append(other)
    return sorted(seen)


def kept_orders(policy, log):
    """All orders of the log's places in which bound rows keep theirs, which are the same."""
    bound = [
        (place, other) for place, other in itertools.combinations(range(len(log)), 2)
        if plain_binds(policy, log[place], log[other])
    ]
    told = set()
    for order in itertools.permutations(range(len(log))):
        at = {place: k for k, place in enumerate(order)}
        if all(at[place] < at[other] for place, other in bound):
            told.add(tuple(log[place] for place in order))
    return [list(one) for one in sorted(told)]


class Binds(Asking):

    def test_by_hand(self):
        for rule, name, other, told in BY_HAND:
            with self.subTest(rule=rule, name=name, other=other):
                asked = {"policy": [rule], "row": row(name, 5), "other": row(other, 7, board=3, word="late")}
                self.assertIs(self.ways(binds, asked), told)
                self.assertIs(binds((rule,), row(other), row(name, word="end")), told)

    def test_any_rule_of_several(self):
        for rule, name, other, told in BY_HAND:
            for place in range(6):
                policy = [("must", name)] * place + [rule] + [("most", other, 0)] * (5 - place)
                self.assertIs(binds(policy, row(name), row(other)), told)

    def test_no_rule(self):
        self.assertIs(binds([], row("a"), row("b")), False)
        self.assertIs(binds((), row("a"), row("a")), False)

    def test_beside_a_plain_reckoning(self):
        for _, chance in seeded(300):
            policy = some_policy(chance)
            for one, other in itertools.product(rows("a b c boot zz"), repeat=2):
                self.assertIs(binds(policy, one, other), plain_binds(policy, one, other))

    def test_names_that_are_words_of_rules_too(self):
        names = ("next", "must", "only", "a")
        for _, chance in seeded(200):
            policy = some_policy(chance, most=3, names=names)
            for one, other in itertools.product(rows("next must only note most a"), repeat=2):
                self.assertIs(binds(policy, one, other), plain_binds(policy, one, other))
        self.assertIs(binds([("next", "a", "b")], row("next"), row("c")), False)
        self.assertIs(binds([("next", "a", "b")], row("c"), row("next")), False)


class Orders(Asking):

    def check(self, policy, log, told):
        self.same(self.ways(orders, {"policy": policy, "log": log}), told)
        self.same(self.told(orders, tuple(policy), tuple(log)), told)

    def test_by_hand(self):
        a, b, c = rows("a b c")
        self.check([], [], [[]])
        self.check([], [a], [[a]])
        self.check([], [b, a], [[a, b], [b, a]])
        self.check([("ahead", "a", "b")], [a, b], [[a, b]])
        self.check([("never", "a", "b")], [b, a], [[b, a]])
        self.check([("ahead", "a", "b")], [a, b, c], [[a, b, c], [a, c, b], [c, a, b]])
        self.check([("next", "a", "b")], [c, a, b, c], [[c, a, b, c]])
        self.check([("ahead", "a", "a")], [a, b], [[a, b], [b, a]])
        self.check([("must", "a"), ("most", "b", 1)], [c, b, a], sorted(map(list, itertools.permutations([a, b, c]))))

    def test_rows_of_one_name(self):
        one, two = row("a", 5), row("a", 7)
        self.check([("ahead", "a", "b")], [two, one], [[one, two], [two, one]])
        self.check([("next", "a", "b")], [two, one], [[two, one]])

    def test_like_rows_once(self):
        a, b = rows("a b")
        self.check([], [a, a, a], [[a, a, a]])
        self.check([], [a, b, a], [[a, a, b], [a, b, a], [b, a, a]])
        self.assertEqual(len(orders([], [a] * 3 + [b] * 3)), 20)

    def test_rising_as_rows_rise(self):
        log = [row("b", 9), row("b", 10), row("a", 1, board=2), row("a", 1, word="end"), row("a", 1, word="set")]
        self.assertEqual(orders([], log), sorted(map(list, itertools.permutations(log))))

    def test_all_of_six(self):
        log = [row(name) for name in "fedcba"]
        told = orders([], log)
        self.assertEqual(len(told), 720)
        self.assertEqual(told, sorted(map(list, itertools.permutations(log))))

    def test_none_to_six_rows_beside_a_going_from_log_to_log(self):
        many_told = set()
        for seed, chance in seeded(350):
            policy = some_policy(chance, most=chance.choice((1, 2, 6)))
            log = some_log(chance, chance.randint(0, 5), names=chance.choice((FEW_NAMES, ("a", "b"))), notes=(0, 5))
            if chance.random() < 0.5:
                log = [chance.choice(log) for _ in log]
            with self.subTest(seed):
                told = gone_to(policy, log)
                self.check(policy, log, told)
                self.assertEqual(kept_orders(policy, log), told)
                many_told.add(len(told))
        self.assertGreater(len(many_told), 10)

    def test_six_rows_beside_orders_that_keep_what_is_bound(self):
        for seed, chance in seeded(60):
            policy = some_policy(chance, most=3)
            log = some_log(chance, 6, notes=(0, 5))
            with self.subTest(seed):
                self.check(policy, log, kept_orders(policy, log))

    def test_all_fit_or_none(self):
        both = set()
        for seed, chance in seeded(400):
            policy = some_policy(chance, most=chance.choice((1, 2, 3)))
            log = some_log(chance, chance.randint(0, 6), names=("a", "b", "c"), notes=(0, 17))
            told = fits(policy, log)
            both.add(told)
            for one in orders(policy, log):
                self.assertIs(fits(policy, one), told, seed)
                self.assertIs(plain_fits(policy, one), told, seed)
        self.assertEqual(both, {True, False})

    def test_from_each_the_same(self):
        for _, chance in seeded(40):
            policy = [some_rule(chance) for _ in range(2)]
            told = orders(policy, some_log(chance, 4))
            for one in told:
                self.assertEqual(orders(policy, one), told)

    def test_somewhat_beyond(self):
        log = [row(name) for name in "gfedcba"]
        self.assertEqual(len(orders([("ahead", "g", "a")], log)), 5040 // 2)

    def test_told_lists_are_the_askers_own(self):
        log = rows("c b a")
        self.own(orders, [("ahead", "a", "b")], log)
        self.own(orders, [], [])
        self.own(orders, [("next", "a", "b")], log)


if __name__ == "__main__":
    unittest.main()
