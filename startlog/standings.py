"""How a log stands to a policy, row by row."""

from startlog.whole import is_within

# Words of the rules of which it counts whether a row of the first name was there.
OF_SEEN = ("must", "ahead", "never")


def is_broken_by(rule, number, row):
    """Whether a rule that stands at this number is broken by this row."""
    word, first = rule[:2]
    name, note = row[2:]
    if word == "only":
        return name not in first
    if word == "note":
        return name == first and note not in rule[2]
    if word == "most":
        return name == first and number >= rule[2]
    if word == "ahead":
        return name == rule[2] and number == 0
    if word == "never":
        return name == rule[2] and number == 1
    return word == "next" and name != rule[2] and number == 1


def number_behind(rule, number, row):
    """At which number a rule stands behind a row that doesn't break it."""
    word, first = rule[:2]
    is_first = row[2] == first
    if word == "most":
        return number + 1 if is_first else number
    if word == "next":
        return 1 if is_first else 0
    return 1 if is_first and word in OF_SEEN else number


def is_kept_at(rule, number):
    """Whether a log that ends with the rule at this number keeps it."""
    if rule[0] == "must":
        return number == 1
    return rule[0] != "next" or number == 0


def greatest_number(rule):
    """The greatest number at which the rule may stand."""
    if rule[0] == "most":
        return rule[2]
    return 0 if rule[0] in ("only", "note") else 1


def is_standing(policy, thing):
    """Whether thing is a standing of the policy."""
    if not isinstance(thing, tuple) or len(thing) != len(policy):
        return False
    return all([is_within(number, 0, greatest_number(rule)) for rule, number in zip(policy, thing)])


def first_standing(policy):
    """The standing of the policy ahead of all rows."""
    return tuple([0 for rule in policy])


def stepped(policy, standing, row):
    """The standing behind this row, None where a rule is broken by it."""
    if any([is_broken_by(rule, number, row) for rule, number in zip(policy, standing)]):
        return None
    return tuple([number_behind(rule, number, row) for rule, number in zip(policy, standing)])


def ends(policy, standing):
    """Whether a log that stands so fits."""
    return all([is_kept_at(rule, number) for rule, number in zip(policy, standing)])
