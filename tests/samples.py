"""Things that several tests hand in."""

import copy
import random
import unittest

WORDS = ("load", "set", "end", "late", "reset")

# The names at the ends of each length, and others.
NAMES = ("a", "z", "aa", "az", "zz", "fan", "zzz", "aaaa", "boot", "kern", "zzzz")

# Of each kind that may be asked of anything, none of them a name or a row.
THINGS = (
    0, 1, -1, 7, 10 ** 30, True, False, None, "", "a b", "A", "load,", "a\n",
    [], (), [None], (None,), [[]], ((),), [0, "load", "a", 5], ["a"], ("a",),
    [[0, "load", "a", 5]], ((), [[("a", [True, (0, [None])])]]),
)


def number_of(row):
    """The row's number, as [5] tells it."""
    board, word, name, note = row
    number = 0
    for letter in name:
        number = number * 27 + "-abcdefghijklmnopqrstuvwxyz".index(letter)
    return (number * 5 + WORDS.index(word)) * 9973 + note


def rows_of(words, *, boards=(0, 7)):
    """Rows of these words at the ends of board, name and note."""
    return [
        (board, word, name, note)
        for word in words for board in boards for name in NAMES
        for note in ((0,) if word in ("end", "reset") else (0, 1, 17, 9972))
    ]


def some_rows(seed, many, words, *, boards=4):
    """So many rows of these words, by this seed always the same."""
    chance = random.Random(seed)
    rows = []
    for _ in range(many):
        word = chance.choice(words)
        note = 0 if word in ("end", "reset") else chance.choice((0, 9972, chance.randrange(9973)))
        name = "".join(chance.choice("abmyz") for _ in range(chance.randint(1, 4)))
        rows.append((chance.randrange(boards), word, name, note))
    return rows


def kinds(thing):
    """The kinds of a thing and of all in it, as a text."""
    if isinstance(thing, dict):
        return f"dict({kinds(list(thing.items()))})"
    inside = ", ".join(kinds(one) for one in thing) if isinstance(thing, (list, tuple)) else ""
    return f"{type(thing).__name__}({inside})"


class Asking(unittest.TestCase):
    """A test case that asks functions in all the ways they may be asked."""

    def told(self, asked, *places, **names):
        """What is told, twice the same, nothing that is handed in being changed."""
        before = copy.deepcopy((places, names))
        first = asked(*places, **names)
        self.same(asked(*places, **names), first)
        self.same((places, names), before)
        return first

    def same(self, thing, other):
        """Equal, and of the same kinds all through (1 is not True, no list a tuple)."""
        self.assertEqual(kinds(thing), kinds(other))
        self.assertEqual(thing, other)

    def refused(self, error, what, asked, *places, **names):
        """Refused by just this class, with just this thing, twice."""
        before = copy.deepcopy((places, names))
        for _ in range(2):
            with self.assertRaises(error) as caught:
                asked(*places, **names)
            self.assertIs(type(caught.exception), error)
            self.same(caught.exception.what, what)
        self.same((places, names), before)

    def by_names_alone(self, asked, *places):
        """The last of these places is behind a *."""
        with self.assertRaises(TypeError):
            asked(*places)
