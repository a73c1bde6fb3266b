"""What tells two policies apart, or shows that nothing does [19], [1] (c)."""

import collections
import itertools
import unittest

from startlog.parting import alike_paper, letters, parted, shows_alike, shows_parted
from startlog.verdicts import fits
from tests.policies import (
    RULE_WORDS, all_standings, plain_ends, plain_fits, plain_standing, plain_stepped, row, rows, seeded, some_log,
    some_policy, some_rule,
)
from tests.samples import NO_ROWS, THINGS, Asking

# Policies that say the same by other words.
ALIKE = [
    ([], []),
    ([("most", "a", 0)], [("ahead", "a", "a")]),
    ([("most", "a", 0)], [("next", "a", "a")]),
    ([("most", "a", 1)], [("never", "a", "a")]),
    ([("only", ("a", "b")), ("only", ("b", "c"))], [("only", ("b",))]),
    ([("must", "a"), ("next", "a", "b")], [("must", "a"), ("next", "a", "b"), ("must", "b")]),
    ([("must", "a"), ("must", "b"), ("most", "c", 2)], [("most", "c", 2), ("must", "b"), ("must", "a")]),
    ([("note", "a", (1, 2, 3)), ("note", "a", (3, 4))], [("note", "a", (3,))]),
    ([("most", "a", 3), ("most", "a", 1)], [("most", "a", 1), ("most", "a", 2)]),
    ([("note", "a", (1,)), ("note", "a", (2,))], [("most", "a", 0)]),
    ([("ahead", "a", "b"), ("ahead", "b", "a")], [("most", "a", 0), ("most", "b", 0)]),
    ([("must", "a")] * 3, [("must", "a")]),
    ([("never", "a", "b"), ("never", "b", "a"), ("never", "a", "a")],
     [("never", "b", "a"), ("never", "a", "b"), ("most", "a", 1)]),
]

# Policies that no log fits.
HOPELESS = [
    [("must", "a"), ("most", "a", 0)], [("must", "b"), ("ahead", "b", "b")], [("must", "c"), ("only", ("a", "b"))],
    [("next", "a", "a"), ("must", "a")], [("ahead", "a", "b"), ("must", "b"), ("only", ("b",))],
    [("next", "a", "b"), ("next", "b", "a"), ("must", "a")],
]

# Two policies and the names of the first log that parts them, all of note 0.
PARTED = [
    ([("must", "a")], [], ""),
    ([("must", "a")], [("must", "b")], "a"),
    ([], [("only", ("a",))], "b"),
    ([], [("only", ("b",))], "a"),
    ([("most", "a", 0)], [], "a"),
    ([("most", "a", 3)], [], "a a a a"),
    ([("most", "a", 2)], [("most", "a", 3)], "a a a"),
    ([("most", "b", 2)], [("most", "b", 1)], "b b"),
    ([("ahead", "a", "b")], [], "b"),
    ([("ahead", "b", "c")], [("ahead", "a", "c")], "a c"),
    ([("ahead", "a", "b")], [("most", "b", 0)], "a b"),
    ([("never", "a", "b")], [], "a b"),
    ([("never", "b", "a")], [("never", "a", "b")], "a b"),
    ([("never", "a", "b")], [("never", "a", "c")], "a b"),
    ([("next", "a", "b")], [], "a"),
    ([("next", "a", "b")], [("next", "a", "c")], "a b"),
    ([("next", "a", "b")], [("most", "a", 0)], "a b"),
    ([("must", "a"), ("most", "a", 0)], [], ""),
    ([("must", "a"), ("most", "a", 0)], [("must", "z"), ("must", "b")], "b z"),
    ([("next", "a", "b"), ("next", "b", "c"), ("most", "a", 3)], [("next", "a", "b"), ("next", "b", "c")], "a b c " * 4),
    ([("next", "a", "b"), ("next", "b", "c"), ("most", "a", 2)],
     [("next", "a", "b"), ("most", "a", 3), ("next", "b", "c")], "a b c " * 3),
    ([("most", "a", 3), ("next", "b", "a"), ("next", "a", "b")], [("must", "a"), ("most", "a", 0)], ""),
]


def plain_letters(policy, other):
    """The letters, as [19] tells them."""
    names, notes = set(), collections.defaultdict(set)
    for rule in [*policy, *other]:
        for part in rule[1:]:
            if isinstance(part, str):
                names.add(part)
            elif rule[0] == "only":
                names.update(part)
            elif rule[0] == "note":
                notes[rule[1]].update(part)
    more = [*"abcdefghijklmnopqrstuvwxyz"]
    more += ["a" + letter for letter in more]
    names.add(next(name for name in more if name not in names))
    return sorted(
        (0, "load", name, note) for name in names
        for note in (*notes[name], next(note for note in range(9973) if note not in notes[name]))
    )


def plain_walk(policy, other):
    """(the first log of letters that parts both, None; the pairs of standings that were come to)."""
    seen = []
    ahead = [[]]
    while ahead:
        behind = []
        for log in ahead:
            pair = (plain_standing(policy, log), plain_standing(other, log))
            if pair not in seen:
                seen.append(pair)
                if plain_fits(policy, log) != plain_fits(other, log):
                    return log, seen
                behind.extend([*log, letter] for letter in plain_letters(policy, other))
        ahead = behind
    return None, seen


def logs_to(rows_of, most):
    """All logs of these rows, shorter ones first, then as lists rise."""
    for many in range(most + 1):
        for log in itertools.product(rows_of, repeat=many):
            yield list(log)


def plain_shows_alike(policy, other, pairs):
    """Whether a list of pairs of standings, or None, of these shows them alike, as [19] tells it."""
    ending = [(plain_ends(policy, one), plain_ends(other, two)) for one, two in pairs]
    behind = [
        (plain_stepped(policy, one, letter), plain_stepped(other, two, letter))
        for one, two in pairs for letter in plain_letters(policy, other)
    ]
    first = ((0,) * len(policy), (0,) * len(other))
    return first in pairs and all(one == two for one, two in ending) and set(behind) <= set(pairs)


def closed(policy, other, pairs):
    """These pairs, and all that are come to from them."""
    told = list(pairs)
    for one, two in told:
        for letter in plain_letters(policy, other):
            pair = (plain_stepped(policy, one, letter), plain_stepped(other, two, letter))
            if pair not in told:
                told.append(pair)
    return told


def turned(pair, place, k, number):
    """The pair with the number at k of one of its standings otherwise."""
    standing = pair[place]
    changed = (*standing[:k], number, *standing[k + 1:])
    return (changed, pair[1]) if place == 0 else (pair[0], changed)


class Letters(Asking):

    def test_by_hand(self):
        self.assertEqual(letters([], []), [row("a")])
        self.assertEqual(letters([("must", "a")], []), [row("a"), row("b")])
        self.assertEqual(letters([], [("must", "b")]), [row("a"), row("b")])
        self.assertEqual(letters([("ahead", "b", "zz")], [("only", ("a", "kern"))]), rows("a b c kern zz"))
        self.assertEqual(
            letters([("note", "a", (0, 17))], [("note", "a", (1, 17)), ("note", "b", (5,)), ("most", "c", 2)]),
            [row("a", 0), row("a", 1), row("a", 2), row("a", 17), row("b", 0), row("b", 5), row("c", 0), row("d", 0)],
        )

    def test_beside_a_plain_reckoning(self):
        names = ("a", "b", "c", "d", "kern", "zzzz", "aa")
        for _, chance in seeded(300):
            policy, other = some_policy(chance, names=names), some_policy(chance, names=names)
            told = self.ways(letters, {"policy": policy, "other": other})
            self.same(told, plain_letters(policy, other))
            self.same(letters(tuple(policy), tuple(other)), told)

    def test_all_letters_taken(self):
        alphabet = "abcdefghijklmnopqrstuvwxyz"
        for many in range(20, 27):
            policy = [("only", tuple(alphabet[k:k + 4])) for k in range(0, 20, 4)]
            policy += [("must", letter) for letter in alphabet[20:many]]
            new = letters(policy, [("must", "ab")])
            self.assertEqual([one[2] for one in new], sorted([*alphabet[:many + 1], "ab"] + ["aa"] * (many == 26)))


class Parted(Asking):

    def check(self, policy, other, log):
        for one, two in ((policy, other), (other, policy)):
            self.same(self.ways(parted, {"policy": one, "other": two}), log)
            self.same(parted(tuple(one), tuple(two)), log)
            paper = self.ways(alike_paper, {"policy": one, "other": two})
            if log is None:
                self.assertIs(self.ways(shows_alike, {"policy": one, "other": two, "thing": paper}), True)
                self.same(alike_paper(tuple(one), tuple(two)), paper)
                self.assertIs(shows_alike(tuple(one), tuple(two), paper), True)
            else:
                self.assertIsNone(paper)
                self.assertIs(self.ways(shows_parted, {"policy": one, "other": two, "thing": log}), True)
                self.assertIs(shows_parted(tuple(one), tuple(two), log), True)

    def test_by_hand(self):
        for policy, other, names in PARTED:
            with self.subTest(policy=policy, other=other):
                self.check(policy, other, rows(names))

    def test_by_a_note_alone(self):
        self.check([("note", "a", (5,))], [], [row("a", 0)])
        self.check([("note", "a", (0,))], [], [row("a", 1)])
        self.check([("note", "a", (5,))], [("note", "a", (6,))], [row("a", 5)])
        self.check([("note", "a", (0, 5))], [("note", "a", (0, 5, 6))], [row("a", 6)])
        self.check([("note", "a", (0, 5))], [("note", "b", (0, 5))], [row("a", 1)])
        self.check([("note", "a", (0, 5))], [("most", "a", 0)], [row("a", 0)])
        self.check([("note", "kern", (9972,)), ("must", "kern")], [("must", "kern")], [row("kern", 0)])

    def test_alike(self):
        for policy, other in ALIKE:
            with self.subTest(policy=policy, other=other):
                self.check(policy, other, None)
                self.check(policy, policy, None)

    def test_that_no_log_fits(self):
        for policy, other in itertools.combinations_with_replacement(HOPELESS, 2):
            self.check(policy, other, None)
        for policy in HOPELESS:
            self.check(policy, [], [])

    def test_a_dozen_rows(self):
        chain = [("next", "a", "b"), ("next", "b", "c")]
        self.check(chain, [*chain, ("most", "c", 3)], rows("c c c c"))
        self.check(chain, [*chain, ("most", "a", 3)], rows("a b c " * 4))
        self.check([("next", "b", "a"), ("next", "c", "b")], [("next", "c", "b"), ("next", "b", "a"), ("most", "c", 3)],
                   rows("c b a " * 4))
        self.check([("ahead", "a", "b"), ("next", "b", "c"), ("most", "b", 2)], [("ahead", "a", "b"), ("next", "b", "c")],
                   rows("a b c b c b c"))

    def test_drawn_at_random_beside_a_walk(self):
        told = collections.Counter()
        for seed, chance in seeded(260):
            names = chance.choice((("a", "b"), ("b", "c"), ("a", "b", "boot"), ("kern",)))
            policy = some_policy(chance, most=3, names=names, notes=(0, 17))
            other = some_policy(chance, most=3, names=names, notes=(0, 17))
            if chance.random() < 0.3:
                other = [*policy[::-1], *other][:3]
            elif chance.random() < 0.5:
                # They differ by a count alone.
                shared = [("next", names[0], names[-1]), some_rule(chance, names=names)]
                policy, other = [*shared, ("most", names[0], 2)], [("most", names[0], 3), *shared]
            with self.subTest(seed):
                log, pairs = plain_walk(policy, other)
                self.check(policy, other, log)
                told[None if log is None else len(log)] += 1
                if log is None:
                    self.assertEqual(len(pairs), len(set(alike_paper(policy, other))))
                    self.assertEqual(set(pairs), set(alike_paper(policy, other)))
        self.assertGreater(told[None], 20)
        self.assertGreater(told[1], 20)
        self.assertGreater(sum(told[many] for many in told if many is not None and many > 1), 20)

    def test_the_first_of_all_logs(self):
        for seed, chance in seeded(150):
            policy = some_policy(chance, most=3, names=("a", "b"), notes=(0, 5))
            other = some_policy(chance, most=3, names=("a", "b"), notes=(0, 5))
            few = plain_letters(policy, other)
            first = next((
                log for log in logs_to(few, 4 if len(few) < 5 else 3)
                if plain_fits(policy, log) != plain_fits(other, log)
            ), None)
            log = parted(policy, other)
            if first is not None:
                self.assertEqual(log, first, seed)
            elif log is not None:
                self.assertGreater(len(log), 3)

    def test_alike_for_all_logs_of_any_rows(self):
        for seed, chance in seeded(300):
            policy = some_policy(chance, most=2, names=("a", "b"))
            other = some_policy(chance, most=2, names=("a", "b"))
            if parted(policy, other) is None:
                for _ in range(40):
                    log = some_log(chance, chance.randint(0, 9), names=("a", "b", "c", "zz"))
                    self.assertIs(fits(policy, log), fits(other, log), seed)

    def test_three_rules_of_many_names(self):
        policy = [("only", tuple("abcd")), ("only", tuple("efgh")), ("only", tuple("ijkl"))]
        other = [("only", tuple("mnop")), ("only", tuple("qrst")), ("only", tuple("uvwx"))]
        self.check(policy, other, None)
        self.check([("only", tuple("uvwx"))], [("only", tuple("uvwy"))], rows("x"))

    def test_the_most_standings(self):
        policy = [("most", "a", 3), ("most", "b", 3), ("most", "c", 3)]
        other = [("most", "d", 3), ("most", "e", 3), ("most", "f", 3)]
        self.check(policy, other, rows("a a a a"))
        self.check(policy, policy[::-1], None)
        self.check(policy, [("most", "c", 3), ("most", "a", 3), ("most", "b", 2)], rows("b b b"))

    def test_somewhat_beyond_the_bounds(self):
        policy = [("must", "a"), ("most", "b", 3), ("ahead", "a", "b"), ("never", "b", "c"), ("most", "a", 2)]
        self.check(policy, policy[::-1], None)
        self.check(policy, policy[:-1], rows("a a a"))
        self.check([("most", "a", 5)], [("most", "a", 4)], rows("a a a a a"))

    def test_told_lists_are_the_askers_own(self):
        for policy, other, _ in PARTED:
            self.own(parted, policy, other)
            self.own(alike_paper, policy, other)
        for policy, other in ALIKE:
            self.own(parted, policy, other)
            self.own(alike_paper, policy, other)


class ShowsAlike(Asking):

    def check(self, policy, other, thing, told):
        self.assertIs(self.told(shows_alike, policy, other, thing), told, (policy, other, thing))

    def test_by_hand(self):
        must = [("must", "a")]
        self.check(must, must, [((0,), (0,)), ((1,), (1,))], True)
        self.check(must, must, [((1,), (1,)), ((0,), (0,)), ((1,), (1,))], True)
        self.check(must, must, [((0,), (0,))], False)
        self.check(must, must, [((1,), (1,))], False)
        self.check(must, must, [((0,), (0,)), ((1,), (1,)), ((0,), (1,))], False)
        self.check([], [], [((), ())], True)
        self.check([], [], [], False)
        none = [("most", "a", 0)]
        self.check(none, none, [((0,), (0,)), (None, None)], True)
        self.check(none, none, [((0,), (0,))], False)
        self.check(none, [("ahead", "a", "a")], [((0,), (0,)), (None, None)], True)
        self.check(none, none, [((0,), (0,)), (None, None), ((0,), None)], False)
        self.check(none, none, [((0,), (0,)), (None, None), (None, (0,))], False)

    def test_what_is_never_come_to_may_stand_there_too(self):
        policy, other = [("must", "a"), ("must", "a")], [("must", "a")]
        paper = [((0, 0), (0,)), ((1, 1), (1,))]
        self.check(policy, other, paper, True)
        self.check(policy, other, [*paper, ((0, 1), (0,))], True)
        self.check(policy, other, [*paper, ((0, 1), (0,)), ((1, 0), (0,))], True)
        self.check(policy, other, [*paper, ((0, 1), (1,))], False)
        self.check(policy, other, [*paper, (None, None)], True)
        self.check([("never", "a", "a")], [("most", "a", 1)], [((0,), (0,)), ((1,), (1,)), (None, None)], True)
        broken = [("must", "a"), ("most", "a", 0)]
        self.check(broken, broken, [((0, 0), (0, 0)), (None, None), ((0, 0), None)], True)

    def test_papers_with_one_step_otherwise(self):
        for policy, other in ALIKE:
            paper = alike_paper(policy, other)
            self.check(policy, other, paper + paper[:1], True)
            self.check(policy, other, paper[::-1], True)
            self.check(policy, other, paper * 2, True)
            self.check(policy, other, tuple(paper), False)
            for place, pair in enumerate(paper):
                rest = paper[:place] + paper[place + 1:]
                self.check(policy, other, rest, False)
                for thing in (*THINGS, list(pair), (pair,), (*pair, None), pair[:1], [pair]):
                    if thing != (None, None):
                        self.check(policy, other, [*rest, thing, *paper], False)
                        self.check(policy, other, [*paper[:place], thing, *paper[place:]], False)

    def test_standings_with_one_number_otherwise(self):
        for policy, other in ALIKE:
            paper = alike_paper(policy, other)
            for place, pair in enumerate(paper):
                for side in (0, 1):
                    for k in range(len(pair[side] or ())):
                        greatest = {"only": 0, "note": 0, "most": (policy, other)[side][k][-1]}
                        for number in (-1, 1 + greatest.get((policy, other)[side][k][0], 1), True, False, None, "0", (0,)):
                            self.check(policy, other, [*paper, turned(pair, side, k, number)], False)
                            turn = [*paper[:place], turned(pair, side, k, number), *paper[place + 1:]]
                            self.check(policy, other, turn, False)
                        other_number = 1 - pair[side][k] if pair[side][k] in (0, 1) else 0
                        turn = [*paper[:place], turned(pair, side, k, other_number), *paper[place + 1:]]
                        self.check(policy, other, turn, False)

    def test_standings_of_more_or_fewer_numbers_or_lists(self):
        for policy, other in ALIKE:
            paper = alike_paper(policy, other)
            one, two = paper[0]
            for pair in (((*one, 0), two), (one, (*two, 0)), (list(one), two), (one, list(two)), [one, two], (one, two, one)):
                self.check(policy, other, [*paper, pair], False)
                self.check(policy, other, [pair, *paper[1:]], False)

    def test_broken_ones(self):
        for policy, other in ALIKE:
            paper = alike_paper(policy, other)
            self.check(policy, other, [*paper, (None, None)], True)
            for one, two in paper:
                if plain_ends(policy, one) and plain_ends(other, two):
                    self.check(policy, other, [*paper, (one, None)], False)
                    self.check(policy, other, [*paper, (None, two)], False)

    def test_lists_of_any_pairs_beside_a_plain_reckoning(self):
        both = collections.Counter()
        for seed, chance in seeded(600):
            policy, other = self.drawn(chance)
            pairs = list(itertools.product([*all_standings(policy), None], [*all_standings(other), None]))
            first = ((0,) * len(policy), (0,) * len(other))
            paper = closed(policy, other, [first, *chance.sample(pairs, chance.choice((0, 0, 1)))])
            if chance.random() < 0.3:
                paper.remove(chance.choice(paper))
            chance.shuffle(paper)
            told = plain_shows_alike(policy, other, paper)
            both[told] += 1
            with self.subTest(seed):
                self.check(policy, other, paper, told)
                self.assertTrue(not told or parted(policy, other) is None)
            self.check(policy, other, pairs, plain_shows_alike(policy, other, pairs))
        self.assertGreater(min(both[True], both[False]), 50)

    def drawn(self, chance):
        """Two policies, which often are alike."""
        policy = some_policy(chance, most=2, names=("a", "b"), notes=(0, 5))
        if chance.random() < 0.5:
            return chance.choice(ALIKE)
        return policy, some_policy(chance, most=2, names=("a", "b"), notes=(0, 5))

    def test_things_of_all_kinds(self):
        for policy, other in (*ALIKE, *[pair[:2] for pair in PARTED]):
            for thing in (*THINGS, *RULE_WORDS, policy, other, tuple(policy), alike_paper([], [])):
                expected = thing == [((), ())] and policy == [] and other == []
                self.check(policy, other, thing, expected)
                self.assertIs(self.told(shows_alike, thing=thing, other=other, policy=policy), expected)


class ShowsParted(Asking):

    def check(self, policy, other, thing, told):
        self.assertIs(self.told(shows_parted, policy, other, thing), told, (policy, other, thing))
        self.assertIs(self.told(shows_parted, thing=thing, other=other, policy=policy), told)

    def test_by_hand(self):
        self.check([("must", "a")], [], [], True)
        self.check([("must", "a")], [], rows("a"), False)
        self.check([("must", "a")], [], [(3, "reset", "b", 0), (7, "late", "c", 9972), (0, "end", "b", 0)], True)
        self.check([], [], [], False)
        self.check([("most", "a", 1)], [], rows("a b a"), True)
        self.check([("most", "a", 1)], [], rows("a b"), False)

    def test_any_rows_beside_a_plain_reckoning(self):
        both = set()
        for _, chance in seeded(400):
            policy, other = some_policy(chance, most=3), some_policy(chance, most=3)
            log = some_log(chance, chance.choice((0, 1, 2, 5, 60)))
            told = plain_fits(policy, log) != plain_fits(other, log)
            both.add(told)
            self.check(policy, other, log, told)
            self.check(tuple(policy), tuple(other), log, told)
            self.check(policy, other, tuple(log), False)
        self.assertEqual(both, {True, False})

    def test_logs_with_one_step_otherwise(self):
        for policy, other, _ in PARTED:
            log = parted(policy, other)
            for place in range(len(log)):
                rest = log[:place] + log[place + 1:]
                self.check(policy, other, rest, plain_fits(policy, rest) != plain_fits(other, rest))
                for name in ("a", "b", "zz"):
                    turn = [*log[:place], row(name, 3), *log[place + 1:]]
                    self.check(policy, other, turn, plain_fits(policy, turn) != plain_fits(other, turn))

    def test_what_is_no_row_among_them(self):
        for policy, other, _ in PARTED:
            log = parted(policy, other)
            for thing in NO_ROWS:
                self.check(policy, other, [*log, thing], False)
                self.check(policy, other, [thing, *log], False)

    def test_things_of_all_kinds(self):
        for policy, other, names in PARTED:
            for thing in (*NO_ROWS, *THINGS, *RULE_WORDS, tuple(rows(names)), [rows(names)], row("a")):
                self.check(policy, other, thing, thing == [] and isinstance(thing, list) and names == "")


if __name__ == "__main__":
    unittest.main()
