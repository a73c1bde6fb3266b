"""Policies and logs that several tests hand in, and a plain reckoning of what [17] and [18] say of them."""

import itertools
import random

RULE_WORDS = ("must", "only", "note", "ahead", "never", "most", "next")

FEW_NAMES = ("a", "b", "c", "boot")

FEW_NOTES = (0, 1, 17, 9972)


def row(name, note=0, *, board=0, word="load"):
    return (board, word, name, note)


def rows(names):
    """Rows of these names, parted by blanks, one behind the other."""
    return [row(name) for name in names.split()]


def some_rule(chance, names=FEW_NAMES, notes=FEW_NOTES):
    """Any rule over these names and notes."""
    word = chance.choice(RULE_WORDS)
    name = chance.choice(names)
    if word == "must":
        return (word, name)
    if word == "only":
        return (word, tuple(sorted(chance.sample(names, chance.randint(1, min(4, len(names)))))))
    if word == "note":
        return (word, name, tuple(sorted(chance.sample(notes, chance.randint(1, min(4, len(notes)))))))
    if word == "most":
        return (word, name, chance.randint(0, 3))
    return (word, name, chance.choice(names))


def some_policy(chance, most=6, **over):
    return [some_rule(chance, **over) for _ in range(chance.randint(0, most))]


def some_log(chance, many, names=FEW_NAMES, notes=FEW_NOTES):
    """So many rows, which seldom can stand."""
    log = []
    for _ in range(many):
        word = chance.choice(("load", "set", "end", "late", "reset"))
        note = 0 if word in ("end", "reset") else chance.choice(notes)
        log.append((chance.randrange(8), word, chance.choice(names), note))
    return log


def seeded(seeds):
    """(seed, a source of chance of it), one behind the other."""
    return [(seed, random.Random(seed)) for seed in range(seeds)]


def first_place(log, is_so):
    """The first place of which it is so, None where there is none."""
    return next((place for place in range(len(log)) if is_so(place)), None)


def plain_place(rule, log):
    """The place of the first row by which the rule is broken, as [17] tells it, None where it's kept."""
    names = [one[2] for one in log]
    word, name, last = rule[0], rule[1], rule[-1]
    if word == "must":
        return None if name in names else len(log)
    if word == "next":
        place = first_place(log, lambda at: names[at] == name and names[at + 1:at + 2] != [last])
        return None if place is None else place + 1
    return first_place(log, {
        "only": lambda at: names[at] not in name,
        "note": lambda at: names[at] == name and log[at][3] not in last,
        "ahead": lambda at: names[at] == last and name not in names[:at],
        "never": lambda at: names[at] == last and name in names[:at],
        "most": lambda at: names[at] == name and names[:at + 1].count(name) > last,
    }[word])


def plain_verdict(policy, log):
    for k, rule in enumerate(policy):
        place = plain_place(rule, log)
        if place is not None:
            return ("unfit", k, place)
    return ("fits",)


def plain_fits(policy, log):
    return all(plain_place(rule, log) is None for rule in policy)


def is_broken(rule, log):
    """Whether a row of the log breaks the rule already, whatever comes behind."""
    place = plain_place(rule, log)
    return place is not None and place < len(log)


def plain_number(rule, log):
    """The number of the rule in the standing behind these rows, as [18] tells it."""
    names = [one[2] for one in log]
    if rule[0] in ("must", "ahead", "never"):
        return 1 if rule[1] in names else 0
    if rule[0] == "most":
        return names.count(rule[1])
    return 1 if rule[0] == "next" and names[-1:] == [rule[1]] else 0


def plain_standing(policy, log):
    """The standing behind these rows, None where one of them breaks a rule."""
    if any(is_broken(rule, log) for rule in policy):
        return None
    return tuple(plain_number(rule, log) for rule in policy)


def plain_step(rule, number, one):
    """The rule's number behind one row more, from any number that it may have; None where it's broken."""
    name, other = rule[1], rule[-1]
    is_name, is_other = one[2] == name, one[2] == other
    if rule[0] in ("only", "note"):
        kept = one[2] in name if rule[0] == "only" else not is_name or one[3] in other
        return 0 if kept else None
    if rule[0] == "most":
        return None if number + is_name > other else number + is_name
    if (rule[0], number, is_other) in (("ahead", 0, True), ("never", 1, True), ("next", 1, False)):
        return None
    return int(is_name) if rule[0] == "next" else max(number, int(is_name))


def plain_stepped(policy, standing, one):
    """The standing behind one row more; a broken one, None, stays so."""
    told = [plain_step(rule, number, one) for rule, number in zip(policy, standing or ())]
    return None if standing is None or None in told else tuple(told)


def plain_ends(policy, standing):
    """Whether a log that stands so fits; a broken one doesn't."""
    return standing is not None and all(
        number == {"must": 1, "next": 0}.get(rule[0], number) for rule, number in zip(policy, standing)
    )


def greatest(rule):
    """The greatest number that the rule may have in a standing."""
    return {"only": 0, "note": 0, "most": rule[-1]}.get(rule[0], 1)


def all_standings(policy):
    """All standings of the policy."""
    return list(itertools.product(*[range(greatest(rule) + 1) for rule in policy]))
