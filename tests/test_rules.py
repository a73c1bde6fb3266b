"""What rules and policies are [17]."""

import itertools
import unittest

from startlog.rules import is_policy, is_rule
from tests.samples import NAMES, THINGS, Asking

RULES = [
    ("must", "boot"), ("only", ("boot",)), ("only", ("boot", "fan", "kern", "zzzz")), ("note", "kern", (17,)),
    ("note", "kern", (0, 17, 99, 9972)), ("ahead", "boot", "kern"), ("ahead", "boot", "boot"), ("never", "fan", "boot"),
    ("never", "fan", "fan"), ("most", "fan", 0), ("most", "fan", 3), ("next", "boot", "kern"), ("next", "boot", "boot"),
]

WORDS = ("must", "only", "note", "ahead", "never", "most", "next")

NO_NAMES = (*THINGS, "Boot", "kerne", "b0", "a ", ("boot",), ["boot"])

# What none of the places of a rule takes.
NOWHERE = (None, True, False, "", "Boot", -1, 9973, [], [17], ["boot"], (), ("Boot",), (True,), (-1,), (9973,), ((),))


class IsRule(Asking):

    def check(self, thing, told):
        self.assertIs(self.told(is_rule, thing), told, thing)
        self.assertIs(self.told(is_rule, thing=thing), told, thing)

    def test_rules_of_each_kind(self):
        for rule in RULES:
            self.check(rule, True)

    def test_all_names(self):
        for name in NAMES:
            self.check(("must", name), True)
            self.check(("only", (name,)), True)
            self.check(("note", name, (5,)), True)
            self.check(("most", name, 1), True)
            for word in ("ahead", "never", "next"):
                for other in NAMES:
                    self.check((word, name, other), True)

    def test_no_names(self):
        for thing in NO_NAMES:
            self.check(("must", thing), False)
            self.check(("only", (thing,)), False)
            self.check(("only", ("a", thing)), False)
            self.check(("note", thing, (5,)), False)
            self.check(("most", thing, 1), False)
            for word in ("ahead", "never", "next"):
                self.check((word, thing, "boot"), False)
                self.check((word, "boot", thing), False)

    def test_names_of_only(self):
        for many in range(6):
            for names in itertools.product(("a", "aa", "b", "z"), repeat=many):
                rising = list(names) == sorted(set(names))
                self.check(("only", names), 1 <= many <= 4 and rising)
        self.check(("only", ("a", "b", "c", "d", "e")), False)
        self.check(("only", ["a", "b"]), False)
        self.check(("only", "a"), False)
        self.check(("only", "abcd"), False)
        self.check(("only", (("a",),)), False)
        self.check(("only", "a", "b"), False)

    def test_notes(self):
        for many in range(6):
            for notes in itertools.product((0, 17, 99, 9972), repeat=many):
                rising = list(notes) == sorted(set(notes))
                self.check(("note", "kern", notes), 1 <= many <= 4 and rising)
        self.check(("note", "kern", (1, 2, 3, 4, 5)), False)
        for thing in (*THINGS, -1, 9973, 9974, 17, "17", [17]):
            self.check(("note", "kern", thing), False)
            if type(thing) is not int or not 0 <= thing < 9973:
                self.check(("note", "kern", (thing,)), False)
                self.check(("note", "kern", (0, thing)), False)

    def test_most(self):
        for k in (0, 1, 2, 3):
            self.check(("most", "fan", k), True)
        for k in (-1, 4, 5, 10 ** 30, True, False, None, "", "1", [], (), [1], (1,), "fan"):
            self.check(("most", "fan", k), False)

    def test_words(self):
        for word in (*THINGS, "Must", "musts", "mus", "any", "must ", ("must",), ["must"]):
            for rule in RULES:
                self.check((word, *rule[1:]), False)

    def test_each_part_of_another_kind(self):
        for rule in RULES:
            for place in range(len(rule)):
                for thing in NOWHERE:
                    self.check((*rule[:place], thing, *rule[place + 1:]), False)

    def test_words_exchanged(self):
        kinds = {"must": 0, "only": 1, "note": 2, "ahead": 3, "never": 3, "most": 4, "next": 3}
        for rule in RULES:
            for word in WORDS:
                self.check((word, *rule[1:]), kinds[word] == kinds[rule[0]])

    def test_more_or_fewer_parts(self):
        for rule in RULES:
            for many in range(len(rule)):
                self.check(rule[:many], False)
            for thing in (None, "boot", 0, (), ("boot",), (17,)):
                self.check((*rule, thing), False)
                self.check((thing, *rule), False)

    def test_other_kinds(self):
        for thing in (*THINGS, *WORDS, *[list(rule) for rule in RULES], *[[rule] for rule in RULES],
                      *[(rule,) for rule in RULES], *[rule[::-1] for rule in RULES if len(rule) == 2]):
            self.check(thing, False)


class IsPolicy(Asking):

    def check(self, thing, told):
        self.assertIs(self.told(is_policy, thing), told, thing)
        self.assertIs(self.told(is_policy, thing=thing), told, thing)

    def test_none_to_six(self):
        for many in range(9):
            for first in range(len(RULES)):
                rules = [RULES[(first + k) % len(RULES)] for k in range(many)]
                self.check(rules, many <= 6)
                self.check(tuple(rules), False)

    def test_the_same_rule_again(self):
        for many in range(9):
            self.check([RULES[0]] * many, many <= 6)

    def test_what_is_no_rule_among_them(self):
        for thing in (*THINGS, ["must", "boot"], ("must",), ("most", "fan", 4), ("only", ()), ("any", "boot")):
            for place in range(4):
                self.check([*RULES[:place], thing, *RULES[place:3]], False)

    def test_other_kinds(self):
        for thing in (*THINGS, *RULES, *WORDS, [[RULES[0]]], [(RULES[0],)], (RULES[0],), list(RULES[0])):
            self.check(thing, thing == [] and isinstance(thing, list))


if __name__ == "__main__":
    unittest.main()
