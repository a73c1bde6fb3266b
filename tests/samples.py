"""Things that several tests hand in."""

import copy
import unittest

# Of each kind that may be asked of anything, none of them a name or a row.
THINGS = (
    0, 1, -1, 7, 10 ** 30, True, False, None, "", "a b", "A", "load,", "a\n",
    [], (), [None], (None,), [[]], ((),), [0, "load", "a", 5], ["a"], ("a",),
    [[0, "load", "a", 5]], ((), [[("a", [True, (0, [None])])]]),
)


def kinds(thing):
    """The kinds of a thing and of all in it, as a text."""
    if isinstance(thing, dict):
        return f"dict({kinds(list(thing.items()))})"
    inside = ", ".join(kinds(one) for one in thing) if isinstance(thing, (list, tuple)) else ""
    return f"{type(thing).__name__}({inside})"


class Asking(unittest.TestCase):
    """A test case that asks functions in all the ways they may be asked."""

    def told(self, asked, *places, **names):
        """What is told, twice the same, nothing that is handed in being changed."""
        before = copy.deepcopy((places, names))
        first = asked(*places, **names)
        self.same(asked(*places, **names), first)
        self.same((places, names), before)
        return first

    def same(self, thing, other):
        """Equal, and of the same kinds all through (1 is not True, no list a tuple)."""
        self.assertEqual(kinds(thing), kinds(other))
        self.assertEqual(thing, other)

    def refused(self, error, what, asked, *places, **names):
        """Refused by just this class, with just this thing, twice."""
        before = copy.deepcopy((places, names))
        for _ in range(2):
            with self.assertRaises(error) as caught:
                asked(*places, **names)
            self.assertIs(type(caught.exception), error)
            self.same(caught.exception.what, what)
        self.same((places, names), before)

    def by_names_alone(self, asked, *places):
        """The last of these places is behind a *."""
        with self.assertRaises(TypeError):
            asked(*places)
