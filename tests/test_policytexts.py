"""Policies as texts [20]."""

import re
import unittest

from startlog.errors import BadLine
from startlog.policytexts import policy_in, policy_text
from startlog.rules import is_policy
from tests.policies import RULE_WORDS, seeded, some_policy, some_rule
from tests.samples import NAMES, Asking

BY_HAND = [
    ([], "-"),
    ([("ahead", "boot", "kern")], "ahead boot kern"),
    ([("note", "kern", (17, 99))], "note kern 17,99"),
    ([("most", "fan", 2)], "most fan 2"),
    ([("must", "a")], "must a"),
    ([("only", ("boot",))], "only boot"),
    ([("only", ("a", "boot", "kern", "zzzz"))], "only a,boot,kern,zzzz"),
    ([("note", "a", (0,))], "note a 0"),
    ([("note", "a", (0, 1, 9971, 9972))], "note a 0,1,9971,9972"),
    ([("never", "a", "a"), ("next", "zzzz", "must")], "never a a\nnext zzzz must"),
    ([("most", "only", 0), ("most", "note", 3)], "most only 0\nmost note 3"),
    ([("must", "a")] * 6, "\n".join(["must a"] * 6)),
]

# Lines that are no rule's.
NO_LINES = (
    "", " ", "-", "must", "must ", "must  a", " must a", "must a ", "must a b", "must A", "must abcde", "must a,b",
    "must 5", "Must a", "musts a", "mus a", "only", "only ", "only a,", "only ,a", "only a,,b", "only b,a", "only a,a",
    "only a, b", "only a b", "only a,b,c,d,e", "only -", "only A", "note a", "note a ", "note a -", "note a 9973",
    "note a 10000", "note a 05", "note a 00", "note a +5", "note a -5", "note a 5,", "note a ,5", "note a 5,5",
    "note a 6,5", "note a 1,2,3,4,5", "note a 5 6", "note a b", "note 5", "note a,b 5", "note a 1_0", "note a 5.0",
    "ahead a", "ahead a ", "ahead a b c", "ahead a  b", "ahead a B", "ahead a,b", "ahead a b,c", "never a", "never a 5",
    "next a", "next a -", "most a", "most a 4", "most a 03", "most a -1", "most a 1,2", "most a b", "most 1", "most a 10",
    "most a " + "9" * 500, "load a", "0 load boot 17", "must:a", "must\ta",
)


def plain_rule(line):
    """The rule whose line this is, as [17] and [20] tell it, None where it's none's."""
    name, number = "[a-z]{1,4}", "(?:0|[1-9][0-9]*)"
    found = re.fullmatch(
        f"(must) ({name})|(only) ({name}(?:,{name}){{0,3}})|(note) ({name}) ({number}(?:,{number}){{0,3}})"
        f"|(ahead|never|next) ({name}) ({name})|(most) ({name}) ([0-3])", line,
    )
    if found is None:
        return None
    word, *parts = [part for part in found.groups() if part is not None]
    if word == "most":
        return (word, parts[0], int(parts[1]))
    if word in ("only", "note"):
        choices = parts[-1].split(",") if word == "only" else [int(part) for part in parts[-1].split(",")]
        if choices != sorted(set(choices)) or word == "note" and choices[-1] > 9972:
            return None
        parts[-1] = tuple(choices)
    return (word, *parts)


def plain_policy(text):
    """The policy whose text this is, or the number of the first line that isn't so written."""
    if text == "-":
        return []
    rules = [plain_rule(line) for line in text.split("\n")]
    for k, rule in enumerate(rules):
        if rule is None or k == 6:
            return k
    return rules


def one_sign_otherwise(text, signs):
    """All texts with one sign left out, put in or otherwise."""
    for place in range(len(text) + 1):
        yield text[:place] + text[place + 1:]
        for sign in signs:
            yield text[:place] + sign + text[place:]
            yield text[:place] + sign + text[place + 1:]


class PolicyText(Asking):

    def test_by_hand(self):
        for policy, text in BY_HAND:
            self.same(self.ways(policy_text, {"policy": policy}), text)
            self.same(self.told(policy_text, tuple(policy)), text)

    def test_all_names(self):
        for name in NAMES:
            self.same(policy_text([("must", name), ("next", name, "a")]), f"must {name}\nnext {name} a")

    def test_beyond_the_bounds(self):
        self.same(policy_text([("must", "a")] * 8), "\n".join(["must a"] * 8))
        self.same(policy_text([("only", tuple("abcdef"))]), "only a,b,c,d,e,f")


class PolicyIn(Asking):

    def check(self, text):
        """Read, or refused, as the plain reckoning tells."""
        told = plain_policy(text)
        if isinstance(told, int):
            with self.assertRaises(BadLine, msg=repr(text)) as caught:
                policy_in(text)
            self.same(caught.exception.what, told)
        else:
            self.same(policy_in(text), told)
            self.assertEqual(policy_text(told), text)

    def test_by_hand(self):
        for policy, text in BY_HAND:
            self.same(self.ways(policy_in, {"text": text}), policy)
            self.assertEqual(plain_policy(text), policy)

    def test_written_and_read_back(self):
        words = set()
        for _, chance in seeded(400):
            policy = some_policy(chance, names=NAMES, notes=(0, 1, 9, 10, 17, 99, 100, 9972))
            words.update(rule[0] for rule in policy)
            text = policy_text(policy)
            self.assertEqual(plain_policy(text), policy)
            self.same(self.told(policy_in, text), policy)
            self.assertTrue(is_policy(policy_in(text)))
            self.same(policy_text(policy_in(text)), text)
        self.assertEqual(words, set(RULE_WORDS))

    def test_no_text_twice(self):
        texts = {}
        for _, chance in seeded(400):
            policy = some_policy(chance, most=2, names=("a", "ab"), notes=(1, 2))
            self.assertEqual(texts.setdefault(policy_text(policy), policy), policy)

    def test_lines_that_are_no_rules(self):
        for line in NO_LINES:
            if line != "-":
                self.refused_all_ways(BadLine, 0, policy_in, {"text": line})
            for k in range(6):
                rest = 5 - k
                text = "\n".join(["must a"] * k + [line] + ["must a"] * rest)
                self.refused(BadLine, k, policy_in, text)

    def test_the_first_of_several(self):
        for k in range(6):
            text = "\n".join(["must a"] * k + ["must A", "", "most a 4"])
            self.refused(BadLine, k, policy_in, text)
        self.refused(BadLine, 1, policy_in, "must a\nno\n" + "must a\n" * 9)

    def test_a_text_without_a_sign(self):
        self.refused(BadLine, 0, policy_in, "")
        self.refused(BadLine, 0, policy_in, "\n")
        self.refused(BadLine, 0, policy_in, " ")

    def test_none_stands_alone(self):
        self.same(policy_in("-"), [])
        for text, k in (("-\n", 0), ("\n-", 0), ("-\n-", 0), ("-\nmust a", 0), ("must a\n-", 1), ("- ", 0), (" -", 0),
                        ("--", 0), ("must a\n-\nmust a", 1)):
            self.refused(BadLine, k, policy_in, text)

    def test_seven_lines(self):
        for many in range(7, 12):
            self.refused(BadLine, 6, policy_in, "\n".join(["must a"] * many))
        self.refused(BadLine, 6, policy_in, "\n".join(["must a"] * 6 + ["no"]))
        self.refused(BadLine, 6, policy_in, "\n".join(["must a"] * 7 + ["no"]))
        self.refused(BadLine, 5, policy_in, "\n".join(["must a"] * 5 + ["no", "must a"]))
        self.refused(BadLine, 6, policy_in, "must a\n" * 6)

    def test_blanks_and_line_feeds_at_both_ends(self):
        for policy, text in BY_HAND:
            for sign in (" ", "\n"):
                self.check(sign + text)
                self.check(text + sign)
                self.check(sign + text + sign)
        self.refused(BadLine, 0, policy_in, "\nmust a")
        self.refused(BadLine, 1, policy_in, "must a\n")
        self.refused(BadLine, 0, policy_in, "must a \nmust a")
        self.refused(BadLine, 1, policy_in, "must a\nmust a ")

    def test_one_sign_otherwise(self):
        for policy, text in BY_HAND:
            for other in one_sign_otherwise(text, " ,-\n0129amz:"):
                self.check(other)

    def test_one_sign_otherwise_of_any_sign(self):
        signs = [chr(code) for code in range(32, 127) if chr(code) != "%"] + ["\n"]
        for _, chance in seeded(12):
            text = policy_text([some_rule(chance, names=NAMES) for _ in range(chance.randint(1, 2))])
            for other in one_sign_otherwise(text, signs):
                self.check(other)

    def test_one_line_more_fewer_or_elsewhere(self):
        for _, chance in seeded(200):
            lines = policy_text(some_policy(chance)).split("\n")
            place = chance.randrange(len(lines))
            more = chance.choice((*NO_LINES, "must a", "most b 2"))
            self.check("\n".join(lines[:place] + lines[place + 1:]))
            self.check("\n".join([*lines[:place], more, *lines[place:]]))
            self.check("\n".join([*lines[:place], more, *lines[place + 1:]]))
            self.check("\n".join(sorted(lines)))

    def test_long_texts(self):
        self.refused(BadLine, 0, policy_in, "must " + "a" * 7995)
        self.refused(BadLine, 0, policy_in, "most a " + "1" * 7990)
        self.refused(BadLine, 0, policy_in, "note a " + "1" * 9000)
        self.refused(BadLine, 0, policy_in, "only " + "a," * 3990 + "b")
        self.refused(BadLine, 0, policy_in, "\n" * 8000)

    def test_told_lists_are_the_askers_own(self):
        for _, text in BY_HAND:
            self.own(policy_in, text)


if __name__ == "__main__":
    unittest.main()
