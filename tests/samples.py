"""Things that several tests hand in."""

import copy
import random
import unittest

WORDS = ("load", "set", "end", "late", "reset")

SPAN = 26500305465

# The names at the ends of each length, and others.
NAMES = ("a", "z", "aa", "az", "zz", "fan", "zzz", "aaaa", "boot", "kern", "zzzz")

# Of each kind that may be asked of anything, none of them a name or a row.
THINGS = (
    0, 1, -1, 7, 10 ** 30, True, False, None, "", "a b", "A", "load,", "a\n",
    [], (), [None], (None,), [[]], ((),), [0, "load", "a", 5], ["a"], ("a",),
    [[0, "load", "a", 5]], ((), [[("a", [True, (0, [None])])]]),
)


# (width, factor) of mixings, those of few numbers among them.
MIXINGS = ((None, 7919), (None, 7), (3, 1), (3, 7919), (4, 7), (101, 7), (360, 7919), (500, 7919), (10 ** 6, 999999))

# What may be told of boards: (many, fixed), one to eight of them, none to all of them fixed.
BOARDS = [(many, fixed) for many in range(1, 9) for fixed in range(many + 1)]

NO_ROWS = (
    *THINGS, "load", (0, "load", "boot"), (0, "load", "boot", 5, 0), [0, "load", "boot", 5], (8, "load", "boot", 5),
    (-1, "load", "boot", 5), (True, "load", "boot", 5), (0, "Load", "boot", 5), (0, "load", "Boot", 5),
    (0, "load", "boot", 9973), (0, "load", "boot", True), (0, "load", "boot", -1), (0, "end", "boot", 1),
    (2, "reset", "boot", 1),
)


def number_of(row):
    """The row's number, as [5] tells it."""
    board, word, name, note = row
    number = 0
    for letter in name:
        number = number * 27 + "-abcdefghijklmnopqrstuvwxyz".index(letter)
    return (number * 5 + WORDS.index(word)) * 9973 + note


def rows_of(words, *, boards=(0, 7)):
    """Rows of these words at the ends of board, name and note."""
    return [
        (board, word, name, note)
        for word in words for board in boards for name in NAMES
        for note in ((0,) if word in ("end", "reset") else (0, 1, 17, 9972))
    ]


def some_rows(seed, many, words, *, boards=4):
    """So many rows of these words, by this seed always the same."""
    chance = random.Random(seed)
    rows = []
    for _ in range(many):
        word = chance.choice(words)
        note = 0 if word in ("end", "reset") else chance.choice((0, 9972, chance.randrange(9973)))
        name = "".join(chance.choice("abmyz") for _ in range(chance.randint(1, 4)))
        rows.append((chance.randrange(boards), word, name, note))
    return rows


def standing(seed, many=4, fixed=2, rows=6):
    """A log that can stand: loads and sets, an end, late ones and, where a board isn't fixed, resets."""
    late = some_rows(seed + 1000, rows, ("late", "reset"), boards=many)
    return [
        *some_rows(seed, rows, ("load", "set"), boards=many),
        (many - 1, "end", "kern", 0),
        *[row if row[1] == "late" or row[0] >= fixed else (row[0], "late", row[2], 5) for row in late],
    ]


def plain_mixed(width, factor, value, row):
    """A board's number behind this row, which is none of reset, as [6] tells it."""
    if width is None:
        return value * SPAN + number_of(row) + 1
    return (value * factor + number_of(row) + 1) % width


def plain_boards(width, factor, log, many=4):
    """The boards' numbers behind a log that can stand, each reckoned by itself, as [9] tells it."""
    told = []
    for board in range(many):
        value = 1
        for row in log:
            if row[0] == board:
                value = 2 if row[1] == "reset" else plain_mixed(width, factor, value, row)
        told.append(value)
    return told


def lists_in(thing):
    """All lists in a thing, itself too."""
    inside = [one for part in thing for one in lists_in(part)] if isinstance(thing, (list, tuple)) else []
    return [thing, *inside] if isinstance(thing, list) else inside


def kinds(thing):
    """The kinds of a thing and of all in it, as a text."""
    if isinstance(thing, dict):
        return f"dict({kinds(list(thing.items()))})"
    inside = ", ".join(kinds(one) for one in thing) if isinstance(thing, (list, tuple)) else ""
    return f"{type(thing).__name__}({inside})"


class Asking(unittest.TestCase):
    """A test case that asks functions in all the ways they may be asked."""

    def told(self, asked, *places, **names):
        """What is told, twice the same, nothing that is handed in being changed."""
        before = copy.deepcopy((places, names))
        first = asked(*places, **names)
        self.same(asked(*places, **names), first)
        self.same((places, names), before)
        return first

    def same(self, thing, other):
        """Equal, and of the same kinds all through (1 is not True, no list a tuple)."""
        self.assertEqual(kinds(thing), kinds(other))
        self.assertEqual(thing, other)

    def refused(self, error, what, asked, *places, **names):
        """Refused by just this class, with just this thing, twice."""
        before = copy.deepcopy((places, names))
        for _ in range(2):
            with self.assertRaises(error) as caught:
                asked(*places, **names)
            self.assertIs(type(caught.exception), error)
            self.same(caught.exception.what, what)
        self.same((places, names), before)

    def ways(self, asked, named, **behind):
        """What is told by places, by names and by names in another order: the same."""
        first = self.told(asked, *named.values(), **behind)
        self.same(self.told(asked, **named, **behind), first)
        turned = dict(reversed([*named.items(), *behind.items()]))
        self.same(self.told(asked, **turned), first)
        return first

    def refused_all_ways(self, error, what, asked, named, **behind):
        """Refused by places, by names and by names in another order."""
        self.refused(error, what, asked, *named.values(), **behind)
        self.refused(error, what, asked, **named, **behind)
        self.refused(error, what, asked, **dict(reversed([*named.items(), *behind.items()])))

    def own(self, asked, *places, **names):
        """What is told is the asker's own: no two told lists are one, and changing them changes no other answer."""
        kept = copy.deepcopy(asked(*places, **names))
        first, second = asked(*places, **names), asked(*places, **names)
        lists = [*lists_in(first), *lists_in(second), *lists_in(places), *lists_in(tuple(names.values()))]
        self.assertEqual(len({id(one) for one in lists}), len(lists))
        for one in lists_in(first):
            one.append("more")
            one.reverse()
        self.same(second, kept)
        self.same(asked(*places, **names), kept)

    def by_names_alone(self, asked, *places):
        """The last of these places is behind a *."""
        with self.assertRaises(TypeError):
            asked(*places)
