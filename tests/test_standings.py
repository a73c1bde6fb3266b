"""How a log stands to a policy, row by row [18]."""

import itertools
import unittest

from startlog.standings import ends, first_standing, is_standing, stepped
from startlog.verdicts import fits, verdict
from tests.policies import (
    FEW_NAMES, RULE_WORDS, all_standings, greatest, is_broken, plain_ends, plain_fits, plain_number, plain_standing,
    plain_stepped, row, rows, seeded, some_log, some_policy, some_rule,
)
from tests.samples import THINGS, Asking

# A rule, its number, the name of a row (of note 0), and its number behind it, None where it's broken.
BY_HAND = [
    (("must", "a"), 0, "a", 1), (("must", "a"), 0, "b", 0), (("must", "a"), 1, "a", 1), (("must", "a"), 1, "b", 1),
    (("only", ("a", "b")), 0, "a", 0), (("only", ("a", "b")), 0, "c", None),
    (("note", "a", (0, 5)), 0, "a", 0), (("note", "a", (5,)), 0, "a", None), (("note", "a", (5,)), 0, "b", 0),
    (("ahead", "a", "b"), 0, "a", 1), (("ahead", "a", "b"), 0, "b", None), (("ahead", "a", "b"), 0, "c", 0),
    (("ahead", "a", "b"), 1, "a", 1), (("ahead", "a", "b"), 1, "b", 1), (("ahead", "a", "b"), 1, "c", 1),
    (("ahead", "a", "a"), 0, "a", None), (("ahead", "a", "a"), 1, "a", 1), (("ahead", "a", "a"), 0, "b", 0),
    (("never", "a", "b"), 0, "a", 1), (("never", "a", "b"), 0, "b", 0), (("never", "a", "b"), 1, "b", None),
    (("never", "a", "b"), 1, "a", 1), (("never", "a", "b"), 1, "c", 1), (("never", "a", "a"), 0, "a", 1),
    (("never", "a", "a"), 1, "a", None), (("never", "a", "a"), 1, "b", 1),
    (("most", "a", 0), 0, "a", None), (("most", "a", 0), 0, "b", 0), (("most", "a", 3), 0, "a", 1),
    (("most", "a", 3), 1, "a", 2), (("most", "a", 3), 2, "a", 3), (("most", "a", 3), 3, "a", None),
    (("most", "a", 3), 3, "b", 3), (("most", "a", 3), 2, "b", 2),
    (("next", "a", "b"), 0, "a", 1), (("next", "a", "b"), 0, "b", 0), (("next", "a", "b"), 0, "c", 0),
    (("next", "a", "b"), 1, "b", 0), (("next", "a", "b"), 1, "a", None), (("next", "a", "b"), 1, "c", None),
    (("next", "a", "a"), 0, "a", 1), (("next", "a", "a"), 1, "a", 1), (("next", "a", "a"), 1, "b", None),
    (("next", "a", "a"), 0, "b", 0),
]


def ahead_of(rule, number):
    """Rows, none of which breaks the rule, behind which it has this number; None where there are none."""
    names = "abcdz"
    for many in range(5):
        for log in itertools.product([row(name) for name in names], repeat=many):
            if not is_broken(rule, log) and plain_number(rule, log) == number:
                return list(log)
    return None


class Standings(Asking):

    def test_first(self):
        for _, chance in seeded(60):
            policy = some_policy(chance)
            told = self.ways(first_standing, {"policy": policy})
            self.same(told, (0,) * len(policy))
            self.same(first_standing(tuple(policy)), told)

    def test_by_hand(self):
        for rule, number, name, told in BY_HAND:
            with self.subTest(rule=rule, number=number, name=name):
                asked = {"policy": [rule], "standing": (number,), "row": row(name)}
                self.same(self.ways(stepped, asked), None if told is None else (told,))
                self.same(stepped((rule,), (number,), row(name)), None if told is None else (told,))

    def test_by_hand_each_word(self):
        for word in RULE_WORDS:
            told = [number for rule, _, _, number in BY_HAND if rule[0] == word]
            self.assertTrue(word == "must" or None in told)
            self.assertTrue(any(number is not None for number in told))

    def test_several_rules(self):
        policy = [("must", "a"), ("most", "a", 2), ("next", "a", "b"), ("only", ("a", "b"))]
        standing = first_standing(policy)
        seen = [standing]
        for name in "a b a b".split():
            standing = stepped(policy, standing, row(name))
            seen.append(standing)
        self.assertEqual(seen, [(0, 0, 0, 0), (1, 1, 1, 0), (1, 1, 0, 0), (1, 2, 1, 0), (1, 2, 0, 0)])
        self.assertEqual([ends(policy, one) for one in seen], [False, False, True, False, True])
        self.assertIsNone(stepped(policy, seen[1], row("a")))
        self.assertIsNone(stepped(policy, seen[4], row("a")))
        self.assertIsNone(stepped(policy, seen[4], row("c")))

    def test_no_rule(self):
        self.same(first_standing([]), ())
        self.same(stepped([], (), row("a")), ())
        self.assertIs(ends([], ()), True)

    def test_row_by_row_beside_the_rows_so_far(self):
        broken = 0
        for seed, chance in seeded(700):
            policy = some_policy(chance)
            log = some_log(chance, chance.choice((0, 3, 8, 60)), names=chance.choice((FEW_NAMES, FEW_NAMES[:2])))
            handed = chance.choice((list, tuple))(policy)
            standing = first_standing(handed)
            for place, one in enumerate(log):
                with self.subTest(seed=seed, place=place):
                    self.assertIs(ends(handed, standing), plain_fits(policy, log[:place]))
                    self.assertIs(ends(handed, standing), fits(policy, log[:place]))
                    standing = self.told(stepped, handed, standing, one)
                    self.same(standing, plain_standing(policy, log[:place + 1]))
                if standing is None:
                    broken += 1
                    places = [verdict([rule], log)[-1] for rule in policy if not fits([rule], log)]
                    self.assertEqual(min(places), place)
                    break
            else:
                self.assertIs(ends(handed, standing), plain_fits(policy, log))
        self.assertGreater(broken, 100)

    def test_made_by_hand_rule_by_rule(self):
        for _, chance in seeded(120):
            rule = some_rule(chance, names=("a", "b", "c"), notes=(0, 17))
            for number in range(greatest(rule) + 1):
                before = ahead_of(rule, number)
                for one in [row(name, note) for name in "abcd" for note in (0, 1, 17)]:
                    if before is not None:
                        self.assertEqual(stepped([rule], (number,), one), plain_standing([rule], [*before, one]))

    def test_made_by_hand_is_stepped_rule_by_rule(self):
        for _, chance in seeded(60):
            policy = some_policy(chance, most=4)
            for standing in all_standings(policy):
                for one in some_log(chance, 2):
                    parts = [stepped([rule], (number,), one) for rule, number in zip(policy, standing)]
                    told = None if None in parts else tuple(part[0] for part in parts)
                    self.same(stepped(policy, standing, one), told)
                    self.same(plain_stepped(policy, standing, one), told)

    def test_ends_made_by_hand(self):
        for _, chance in seeded(120):
            policy = some_policy(chance, most=4)
            for standing in all_standings(policy):
                told = plain_ends(policy, standing)
                self.assertIs(self.ways(ends, {"policy": policy, "standing": standing}), told)

    def test_whatever_the_board_and_the_word(self):
        for rule, number, name, _ in BY_HAND:
            told = stepped([rule], (number,), row(name))
            for word in ("set", "end", "late", "reset"):
                for board in (0, 3, 7):
                    self.same(stepped([rule], (number,), row(name, word=word, board=board)), told)

    def test_beyond_the_bounds(self):
        policy = [("most", "a", 5), ("only", tuple("abcdefg"))] + [("must", "a")] * 7
        standing = first_standing(policy)
        for many in range(1, 6):
            standing = stepped(policy, standing, row("a"))
            self.same(standing, (many, 0) + (1,) * 7)
        self.assertIsNone(stepped(policy, standing, row("a")))

    def test_is_standing(self):
        for _, chance in seeded(40):
            policy = some_policy(chance, most=3)
            told = all_standings(policy)
            for thing in itertools.product((0, 1, 2, 3, 4, -1, True, None), repeat=len(policy)):
                is_one = thing in told and not any(isinstance(number, bool) for number in thing)
                self.assertIs(is_standing(policy, thing), is_one, (policy, thing))
            for thing in THINGS:
                self.assertIs(is_standing(policy, thing), thing == () and isinstance(thing, tuple) and policy == [])
            for thing in told[:9]:
                self.assertIs(is_standing(policy, list(thing)), False)
                self.assertIs(is_standing(policy, (*thing, 0)), False)


class FirstRowBroken(Asking):

    def test_none_just_at_the_first_row(self):
        for names in itertools.product("abc", repeat=4):
            log = rows(" ".join(names))
            for rule in (("ahead", "a", "b"), ("never", "a", "b"), ("most", "a", 1), ("next", "a", "b")):
                standing, place = first_standing([rule]), 0
                while standing is not None and place < len(log):
                    standing = stepped([rule], standing, log[place])
                    place += 1
                told = verdict([rule], log)
                if standing is None:
                    self.assertEqual(told, ("unfit", 0, place - 1))
                else:
                    self.assertEqual(told, ("fits",) if ends([rule], standing) else ("unfit", 0, len(log)))


if __name__ == "__main__":
    unittest.main()
