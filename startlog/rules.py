"""Rules, and the policies that are made of them."""

from startlog.names import is_name
from startlog.whole import is_within
from startlog.words import NOTES

MOST_RULES = 6

# The most names or notes that one rule has.
MOST_CHOICES = 4

# The greatest count that a rule of most allows.
GREATEST_MOST = 3

# Words of the rules of two names.
OF_TWO = ("ahead", "never", "next")


def are_choices(thing):
    """Whether thing is a tuple of as many things as a rule may have names or notes."""
    return isinstance(thing, tuple) and 1 <= len(thing) <= MOST_CHOICES


def rises(things):
    """Whether each thing is above the one ahead of it."""
    return all([one < after for one, after in zip(things, things[1:])])


def are_names(thing):
    """Whether thing is the names of a rule."""
    return are_choices(thing) and all([is_name(name) for name in thing]) and rises(thing)


def are_notes(thing):
    """Whether thing is the notes of a rule."""
    return are_choices(thing) and all([is_within(note, 0, NOTES - 1) for note in thing]) and rises(thing)


def is_rule(thing):
    """Whether thing is a RULE."""
    if not isinstance(thing, tuple) or len(thing) not in (2, 3):
        return False
    word = thing[0]
    if len(thing) == 2:
        return word == "must" and is_name(thing[1]) or word == "only" and are_names(thing[1])
    if not is_name(thing[1]):
        return False
    if word == "note":
        return are_notes(thing[2])
    if word == "most":
        return is_within(thing[2], 0, GREATEST_MOST)
    return word in OF_TWO and is_name(thing[2])


def is_policy(thing):
    """Whether thing is a list of rules, not too many."""
    return isinstance(thing, list) and len(thing) <= MOST_RULES and all([is_rule(rule) for rule in thing])
