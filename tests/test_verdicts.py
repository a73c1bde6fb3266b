"""Whether a log fits a policy, and which rule it breaks where [17], [1] (c)."""

import itertools
import unittest

from startlog.logs import is_log
from startlog.verdicts import fits, verdict
from tests.policies import (
    FEW_NAMES, RULE_WORDS, plain_fits, plain_place, plain_verdict, row, rows, seeded, some_log, some_policy, some_rule,
)
from tests.samples import WORDS, Asking, standing

# A rule, the names of a log (all of note 0), and the place by which it's broken, None where it's kept.
BY_HAND = [
    (("must", "a"), "", 0), (("must", "a"), "a", None), (("must", "a"), "b c a", None), (("must", "a"), "b c b", 3),
    (("must", "a"), "aa", 1), (("must", "a"), "a a", None),
    (("only", ("a",)), "", None), (("only", ("a",)), "a a a", None), (("only", ("a",)), "b a a", 0),
    (("only", ("a",)), "a b b", 1), (("only", ("a",)), "a a b", 2), (("only", ("a", "b")), "b a b", None),
    (("only", ("a", "b", "c", "d")), "d c b a", None), (("only", ("a", "b", "c", "d")), "d c b a e", 4),
    (("only", ("ab",)), "a", 0),
    (("note", "a", (0,)), "", None), (("note", "a", (0,)), "a b a", None), (("note", "a", (1,)), "a b", 0),
    (("note", "a", (1, 2)), "b a b", 1), (("note", "a", (1, 2)), "b b a", 2), (("note", "a", (1,)), "b b", None),
    (("ahead", "a", "b"), "", None), (("ahead", "a", "b"), "b a", 0), (("ahead", "a", "b"), "a b b", None),
    (("ahead", "a", "b"), "c b a", 1), (("ahead", "a", "b"), "c c b", 2), (("ahead", "a", "b"), "a a", None),
    (("ahead", "a", "b"), "a c b", None), (("ahead", "a", "a"), "b c", None), (("ahead", "a", "a"), "a b", 0),
    (("ahead", "a", "a"), "b a a", 1), (("ahead", "a", "a"), "b b a", 2),
    (("never", "a", "b"), "", None), (("never", "a", "b"), "b b a", None), (("never", "a", "b"), "a b c", 1),
    (("never", "a", "b"), "b a c b b", 3), (("never", "a", "b"), "b a b", 2), (("never", "a", "b"), "a a", None),
    (("never", "a", "a"), "b a c", None), (("never", "a", "a"), "a a b", 1), (("never", "a", "a"), "a b a a", 2),
    (("most", "a", 0), "", None), (("most", "a", 0), "b c", None), (("most", "a", 0), "a b", 0),
    (("most", "a", 0), "b a c", 1), (("most", "a", 0), "b c a", 2), (("most", "a", 1), "a b", None),
    (("most", "a", 1), "a a", 1), (("most", "a", 2), "a b a", None), (("most", "a", 2), "a b a a a", 3),
    (("most", "a", 3), "a a a", None), (("most", "a", 3), "a a a a a", 3), (("most", "a", 3), "a a b a c a", 5),
    (("next", "a", "b"), "", None), (("next", "a", "b"), "b c b", None), (("next", "a", "b"), "a b", None),
    (("next", "a", "b"), "a c b", 1), (("next", "a", "b"), "a a b", 1), (("next", "a", "b"), "c a c a b", 2),
    (("next", "a", "b"), "a b a", 3), (("next", "a", "b"), "a", 1), (("next", "a", "b"), "a b b a b c", None),
    (("next", "a", "a"), "b c", None), (("next", "a", "a"), "a", 1), (("next", "a", "a"), "a a b", 2),
    (("next", "a", "a"), "b a a a", 4),
]


class Verdict(Asking):

    def check(self, policy, log, told):
        self.same(self.ways(verdict, {"policy": policy, "log": log}), told)
        self.assertIs(self.ways(fits, {"policy": policy, "log": log}), told == ("fits",))

    def test_by_hand(self):
        for rule, names, place in BY_HAND:
            with self.subTest(rule=rule, names=names):
                self.check([rule], rows(names), ("fits",) if place is None else ("unfit", 0, place))

    def test_by_hand_each_word_at_the_first_a_middle_and_the_last_row(self):
        for word in RULE_WORDS:
            told = [(place, names.split()) for rule, names, place in BY_HAND if rule[0] == word]
            places = [(place, len(names)) for place, names in told if place is not None]
            self.assertIn(None, [place for place, _ in told])
            if word in ("must", "next"):
                self.assertTrue(any(place == many for place, many in places))
            if word != "must":
                self.assertTrue(any(place in (0, 1) and place < many for place, many in places))
                self.assertTrue(any(0 < place < many - 1 for place, many in places))
                self.assertTrue(any(0 < place == many - 1 for place, many in places))

    def test_the_plain_reckoning_is_by_hand_too(self):
        for rule, names, place in BY_HAND:
            self.assertEqual(plain_place(rule, rows(names)), place, (rule, names))

    def test_notes_at_their_ends(self):
        rule = ("note", "kern", (0, 17, 99, 9972))
        for note in (0, 17, 99, 9972):
            self.check([rule], [row("kern", note)], ("fits",))
        for note in (1, 16, 18, 98, 100, 9971):
            self.check([rule], [row("kern", 17), row("fan", 5), row("kern", note)], ("unfit", 0, 2))
        self.check([rule], [row("fan", note) for note in range(9)], ("fits",))

    def test_an_end_and_a_reset_have_note_0(self):
        log = [row("a", 17), (0, "end", "a", 0), (2, "reset", "a", 0)]
        self.check([("note", "a", (17,))], log, ("unfit", 0, 1))
        self.check([("note", "a", (0, 17))], log, ("fits",))

    def test_no_rule(self):
        for names in ("", "a", "a b c"):
            self.check([], rows(names), ("fits",))

    def test_of_several_broken_the_first_rule(self):
        log = rows("a b c")
        self.check([("most", "c", 0), ("most", "a", 0)], log, ("unfit", 0, 2))
        self.check([("most", "a", 0), ("most", "c", 0)], log, ("unfit", 0, 0))
        self.check([("must", "c"), ("must", "d"), ("most", "a", 0)], log, ("unfit", 1, 3))
        self.check([("must", "c")] * 5 + [("next", "c", "a")], log, ("unfit", 5, 3))
        for k in range(6):
            policy = [("must", "a")] * k + [("never", "a", "b")] * (6 - k)
            self.check(policy, log, ("unfit", k, 1))

    def test_whatever_the_board_and_the_word(self):
        policy = [("next", "a", "b"), ("most", "b", 1)]
        for word, other in itertools.product(WORDS, repeat=2):
            for board in range(8):
                self.check(policy, [row("a", word=word, board=board), row("b", word=other)], ("fits",))
                self.check(policy, [row("b", word=word, board=board), row("a", word=other)], ("unfit", 0, 2))

    def test_rules_each_two_or_three_rows(self):
        chance = seeded(1)[0][1]
        policies = [[some_rule(chance)] for _ in range(150)]
        logs = [rows(" ".join(names)) for many in range(4) for names in itertools.product("abc", repeat=many)]
        for policy in policies:
            for log in logs:
                self.assertEqual(verdict(policy, log), plain_verdict(policy, log), (policy, log))

    def test_none_to_sixty_rows_beside_a_plain_reckoning(self):
        words = set()
        for seed, chance in seeded(900):
            policy = some_policy(chance)
            names = chance.choice((FEW_NAMES, FEW_NAMES[:2], ("a", "zz")))
            log = some_log(chance, chance.choice((0, 1, 2, 3, 5, 8, 60)), names=names)
            told = plain_verdict(policy, log)
            words.add("fits" if told == ("fits",) else policy[told[1]][0])
            with self.subTest(seed):
                self.check(policy, log, told)
                self.check(tuple(policy), tuple(log), told)
                self.assertIs(fits(policy, log), plain_fits(policy, log))
        self.assertEqual(words, {*RULE_WORDS, "fits"})

    def test_names_that_are_words_of_rules_too(self):
        names = ("next", "must", "only", "note", "most", "a")
        for _, chance in seeded(200):
            policy = some_policy(chance, names=names)
            log = some_log(chance, chance.randint(0, 8), names=names)
            self.check(policy, log, plain_verdict(policy, log))

    def test_logs_that_can_stand(self):
        for seed, chance in seeded(100):
            log = standing(seed)
            self.assertTrue(is_log(log))
            names = tuple(sorted({one[2] for one in log}))
            policy = some_policy(chance, names=names, notes=tuple(sorted({one[3] for one in log})))
            self.check(policy, log, plain_verdict(policy, log))

    def test_beyond_the_bounds(self):
        for seed, chance in seeded(30):
            policy = [some_rule(chance) for _ in range(9)] + [("most", "a", 5), ("only", tuple("abcdefg"))]
            log = some_log(chance, 75)
            self.check(policy, log, plain_verdict(policy, log))
            self.check(policy[-2:], rows("a " * 6), ("unfit", 0, 5))

    def test_broken_stays_broken_at_its_place(self):
        for seed, chance in seeded(200):
            rule, log = some_rule(chance), some_log(chance, 6)
            told = verdict([rule], log)
            if told != ("fits",) and told[2] < len(log):
                self.assertEqual(verdict([rule], log + some_log(chance, 3)), told)
                self.assertEqual(verdict([rule], log[:told[2] + 1]), told)


if __name__ == "__main__":
    unittest.main()
