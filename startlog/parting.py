"""What tells two policies apart, or shows that nothing does."""

from startlog.errors import NoName
from startlog.names import name_of
from startlog.rows import is_row
from startlog.rules import OF_TWO
from startlog.standings import ends, first_standing, is_standing, stepped
from startlog.verdicts import fits


def names_in(rule):
    """The names that the rule has."""
    if rule[0] == "only":
        return list(rule[1])
    return list(rule[1:]) if rule[0] in OF_TWO else [rule[1]]


def is_new_name(number, names):
    """Whether this is the number of a name that isn't among these."""
    try:
        return name_of(number) not in names
    except NoName:
        return False


def least_new_name(names):
    """The least name, by its number, that isn't among these."""
    number = 1
    while not is_new_name(number, names):
        number += 1
    return name_of(number)


def notes_for(rules, name):
    """The notes that the rules have for this name, and the least that none has."""
    notes = [note for rule in rules if rule[0] == "note" and rule[1] == name for note in rule[2]]
    least = 0
    while least in notes:
        least += 1
    return [*notes, least]


def letters(policy, other):
    """The rising rows that stand for all that the two policies can tell apart."""
    rules = [*policy, *other]
    names = [name for rule in rules for name in names_in(rule)]
    names.append(least_new_name(names))
    return sorted({(0, "load", name, note) for name in names for note in notes_for(rules, name)})


class Side:
    """One of two policies, and where the letters lead its standings, None being a broken one."""

    def __init__(self, policy, rows):
        self.policy = policy
        self.rows = rows
        # Many pairs share a standing, so that each is stepped once and kept.
        self.led = {}

    def behind(self, standing):
        """The standings behind each letter."""
        if standing is None:
            return [None] * len(self.rows)
        if standing not in self.led:
            self.led[standing] = [stepped(self.policy, standing, row) for row in self.rows]
        return self.led[standing]

    def does_end(self, standing):
        """Whether a log that stands so fits."""
        return standing is not None and ends(self.policy, standing)


def pairs_behind(one, two, pair):
    """The pairs of standings behind each letter."""
    return list(zip(one.behind(pair[0]), two.behind(pair[1])))


def parts(one, two, pair):
    """Whether a log that leads to this pair of standings fits just one."""
    return one.does_end(pair[0]) != two.does_end(pair[1])


def first_pair(policy, other):
    """The standings of both ahead of all rows."""
    return (first_standing(policy), first_standing(other))


def walked(policy, other):
    """(found, parting): the pairs of standings that logs of letters lead to, by their first logs.

    found tells of each pair the one ahead of it and the letter by which it's come to.
    parting is the first pair that parts the policies, behind which nothing is walked,
    None where there is none.
    """
    rows = letters(policy, other)
    one, two = Side(policy, rows), Side(other, rows)
    left = [first_pair(policy, other)]
    found = {left[0]: None}
    place = 0
    # As shorter logs go first, then those of lesser letters, each pair is first come to by its first log.
    while place < len(left):
        pair = left[place]
        place += 1
        if parts(one, two, pair):
            return (found, pair)
        behind = pairs_behind(one, two, pair)
        for row, to in zip(rows, behind):
            if to not in found:
                found[to] = (pair, row)
                left.append(to)
    return (found, None)


def parted(policy, other):
    """The first log of letters that fits just one of the policies, None where there is none."""
    found, pair = walked(policy, other)
    if pair is None:
        return None
    log = []
    while found[pair] is not None:
        pair, row = found[pair]
        log.append(row)
    return log[::-1]


def alike_paper(policy, other):
    """The list of pairs of standings that shows the policies alike, None where a log parts them."""
    found, pair = walked(policy, other)
    return list(found) if pair is None else None


def is_pair(policy, other, thing):
    """Whether thing is a pair of standings of these, None for a broken one."""
    if not isinstance(thing, tuple) or len(thing) != 2:
        return False
    one, two = thing
    return (one is None or is_standing(policy, one)) and (two is None or is_standing(other, two))


def shows_alike(policy, other, thing):
    """Whether thing is a list of pairs of standings that shows the policies alike."""
    if not isinstance(thing, list) or not all([is_pair(policy, other, pair) for pair in thing]):
        return False
    pairs = {pair: True for pair in thing}
    if first_pair(policy, other) not in pairs:
        return False
    rows = letters(policy, other)
    one, two = Side(policy, rows), Side(other, rows)
    if any([parts(one, two, pair) for pair in pairs]):
        return False
    return all([to in pairs for pair in pairs for to in pairs_behind(one, two, pair)])


def shows_parted(policy, other, thing):
    """Whether thing is a list of rows that fits just one of the policies."""
    if not isinstance(thing, list) or not all([is_row(row) for row in thing]):
        return False
    return fits(policy, thing) != fits(other, thing)
