"""Policies as texts."""

from startlog.errors import BadLine
from startlog.figures import number_in
from startlog.rules import MOST_RULES, is_rule
from startlog.texts import NOTHING


def part_text(part):
    """One part of a rule as a word."""
    if isinstance(part, tuple):
        return ",".join([str(choice) for choice in part])
    return str(part)


def policy_text(policy):
    """The policy as a text, a line for each rule."""
    if len(policy) == 0:
        return NOTHING
    return "\n".join([" ".join([part_text(part) for part in rule]) for rule in policy])


def last_part(word, text):
    """What the last word of a line of this first word stands for."""
    if word == "only":
        return tuple(text.split(","))
    if word == "note":
        return tuple([number_in(note) for note in text.split(",")])
    return number_in(text) if word == "most" else text


def rule_in(line):
    """The rule whose line this is, None where it's none's."""
    words = line.split(" ")
    rule = (*words[:-1], last_part(words[0], words[-1]))
    return rule if is_rule(rule) else None


def policy_in(text):
    """The policy whose text this is; BadLine of the first line that isn't so written."""
    if text == NOTHING:
        return []
    policy = []
    for k, line in enumerate(text.split("\n")):
        rule = rule_in(line)
        if rule is None or k >= MOST_RULES:
            raise BadLine(k)
        policy.append(rule)
    return policy
