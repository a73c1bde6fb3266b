"""Hands, what they note and how they lie [12]."""

import itertools
import random
import unittest

from startlog.errors import BadHand
from startlog.hands import Hand
from startlog.rows import is_row
from tests.samples import NAMES, THINGS, Asking

LOADS = [(0, "fan", 3), (7, "disk", 10 ** 6), (2, "fan", 0)]


def note(body):
    """The body's measure, as [4] tells it."""
    return (body * 48271 + 11) % 9973


def fields(hand):
    return (hand.name, hand.body, hand.loads, hand.lies)


def all_lies(many):
    """All lies that a hand of so many loads may have, by their places."""
    for size in range(many + 2):
        for places in itertools.combinations(range(many + 1), size):
            yield [(place, "lie", 100 + place) for place in places]


def plain_notes(name, loads, lies, next_hand):
    """The rows, as [12] tells them; next_hand is (name, body) or None."""
    told = {place: (other, body) for place, other, body in lies}
    rows = []
    for place, (board, other, body) in enumerate(loads):
        named, noted = told.get(place, (other, body))
        rows.append((board, "set", named, note(noted)))
    if next_hand is None:
        return [*rows, (0, "end", name, 0)]
    named, noted = told.get(len(loads), next_hand)
    return [*rows, (0, "load", named, note(noted))]


class Made(Asking):

    def test_fields(self):
        self.same(fields(Hand("boot", 17)), ("boot", 17, (), ()))
        self.same(fields(Hand(body=17, name="boot")), ("boot", 17, (), ()))
        self.same(fields(Hand("boot", 17, loads=LOADS)), ("boot", 17, tuple(LOADS), ()))
        lies = [(0, "a", 1), (3, "b", 2)]
        for loads in (LOADS, tuple(LOADS)):
            for told in (lies, tuple(lies)):
                for hand in (
                    Hand("boot", 17, loads=loads, lies=told), Hand(lies=told, loads=loads, body=17, name="boot"),
                ):
                    self.same(fields(hand), ("boot", 17, tuple(LOADS), tuple(lies)))

    def test_edges(self):
        for name in NAMES:
            for body in (0, 1, 999999, 10 ** 6):
                self.same(fields(Hand(name, body)), (name, body, (), ()))
        for board in range(8):
            for body in (0, 10 ** 6):
                load = (board, "zzzz", body)
                for many in range(4):
                    self.same(Hand("a", 1, loads=[load] * many).loads, (load,) * many)

    def test_all_lies(self):
        for many in range(4):
            for lies in all_lies(many):
                self.same(Hand("a", 1, loads=LOADS[:many], lies=lies).lies, tuple(lies))

    def test_it_keeps_copies(self):
        loads, lies = list(LOADS), [(1, "a", 5)]
        hand = Hand("boot", 17, loads=loads, lies=lies)
        loads.clear()
        lies[0] = None
        self.same(fields(hand), ("boot", 17, tuple(LOADS), ((1, "a", 5),)))

    def test_by_names_alone(self):
        self.by_names_alone(Hand, "boot", 17, ())
        self.by_names_alone(Hand, "boot", 17, (), ())


class Refused(Asking):

    def test_name(self):
        for name in (*THINGS, "kerne", "Boot", "b0", " a", "a,"):
            self.refused(BadHand, "name", Hand, name, 17)
            self.refused(BadHand, "name", Hand, body=17, name=name)

    def test_body(self):
        for body in (-1, 10 ** 6 + 1, 10 ** 30, True, False, None, "", "17", [], (), [17], (17,)):
            self.refused(BadHand, "body", Hand, "boot", body)
            self.refused(BadHand, "body", Hand, body=body, name="boot")

    def bad_loads(self):
        """What is no list of loads, each by one thing alone."""
        good = (0, "fan", 3)
        bad = [(board, "fan", 3) for board in (-1, 8, 9, True, False, None, "0", [], (0,))]
        bad.extend((0, name, 3) for name in ("", "Fan", "fanny", 0, None, True, ["fan"], ("fan",)))
        bad.extend((0, "fan", body) for body in (-1, 10 ** 6 + 1, True, False, None, "3", [3], (3,)))
        bad.extend([(), (0,), (0, "fan"), (0, "fan", 3, 0), [0, "fan", 3], ((0, "fan", 3),), ("fan", 0, 3)])
        bad.extend([None, 0, "a"])
        told = [thing for thing in THINGS if thing not in ([], ())]
        told.extend([good, list(good), [[good]], [good] * 4, [good] * 5, "fan", None])
        for thing in bad:
            told.extend([[thing], (thing,), [good, thing], [thing, good], [good, good, thing]])
        return told

    def test_loads(self):
        for loads in self.bad_loads():
            self.refused(BadHand, "loads", Hand, "boot", 17, loads=loads)

    def bad_lies(self, many):
        """What is no list of lies of a hand of so many loads."""
        bad = [(place, "lie", 3) for place in (-1, many + 1, many + 2, 10 ** 9, True, False, None, "0", [], (0,))]
        bad.extend((0, name, 3) for name in ("", "Lie", "lying", 0, None, True, ["lie"], ("lie",)))
        bad.extend((0, "lie", body) for body in (-1, 10 ** 6 + 1, True, False, None, "3", [3], (3,)))
        bad.extend([(), (0,), (0, "lie"), (0, "lie", 3, 0), [0, "lie", 3], ((0, "lie", 3),), ("lie", 0, 3)])
        bad.extend([None, 0, "a"])
        told = [thing for thing in THINGS if thing not in ([], ())]
        told.extend([(0, "lie", 3), [0, "lie", 3], [[(0, "lie", 3)]], "lie", None])
        for thing in bad:
            told.extend([[thing], (thing,)])
        # Not rising, or two of one thing.
        for places in itertools.product(range(many + 1), repeat=2):
            if places[0] >= places[1]:
                told.append([(place, "lie", 3) for place in places])
        told.append([(place, "lie", 3) for place in range(many + 2)])
        told.append([*[(place, "lie", 3) for place in range(many + 1)], (many, "a", 3)])
        return told

    def test_lies(self):
        for many in range(4):
            for lies in self.bad_lies(many):
                self.refused(BadHand, "lies", Hand, "boot", 17, loads=LOADS[:many], lies=lies)
        self.refused(BadHand, "lies", Hand, "boot", 17, lies=[(1, "lie", 3)])

    def test_the_first_of_several(self):
        bads = {
            "name": (None, "Boot", []), "body": (None, -1, True), "loads": (None, [None], 5), "lies": (None, [()], 5),
        }
        goods = {"name": ("boot",), "body": (17,), "loads": ((),), "lies": ((),)}
        for bad in itertools.product((False, True), repeat=4):
            if any(bad):
                first = list(bads)[bad.index(True)]
                chosen = [(bads if one else goods)[field] for field, one in zip(bads, bad)]
                for name, body, loads, lies in itertools.product(*chosen):
                    self.refused(BadHand, first, Hand, name, body, loads=loads, lies=lies)

    def test_lies_of_loads_that_are_not_so(self):
        self.refused(BadHand, "loads", Hand, "boot", 17, loads=LOADS * 2, lies=[(5, "lie", 3)])


class Notes(Asking):

    def check(self, hand, next_hand):
        following = None if next_hand is None else (next_hand.name, next_hand.body)
        rows = plain_notes(hand.name, hand.loads, hand.lies, following)
        self.same(self.told(hand.notes, next_hand), rows)
        self.same(self.told(hand.notes, next_hand=next_hand), rows)
        self.own(hand.notes, next_hand)
        self.assertTrue(all(is_row(row) for row in rows))

    def test_by_hand(self):
        kern = Hand("kern", 22)
        self.same(Hand("boot", 17).notes(None), [(0, "end", "boot", 0)])
        self.same(Hand("boot", 17).notes(kern), [(0, "load", "kern", 4835)])
        hand = Hand("boot", 17, loads=[(2, "fan", 17), (0, "disk", 0)])
        self.same(hand.notes(None), [(2, "set", "fan", 2832), (0, "set", "disk", 11), (0, "end", "boot", 0)])
        self.same(hand.notes(kern), [(2, "set", "fan", 2832), (0, "set", "disk", 11), (0, "load", "kern", 4835)])

    def test_lies_by_hand(self):
        kern = Hand("kern", 22)
        loads = [(2, "fan", 17), (0, "disk", 0)]
        first, second, last = (2, "set", "fan", 2832), (0, "set", "disk", 11), (0, "load", "kern", 4835)
        for lies, rows in (
            ([(0, "lie", 0)], [(2, "set", "lie", 11), second, last]),
            ([(1, "lie", 17)], [first, (0, "set", "lie", 2832), last]),
            ([(2, "lie", 17)], [first, second, (0, "load", "lie", 2832)]),
            ([(0, "fan", 0), (2, "kern", 17)], [(2, "set", "fan", 11), second, (0, "load", "kern", 2832)]),
        ):
            self.same(Hand("boot", 17, loads=loads, lies=lies).notes(kern), rows)
        hand = Hand("boot", 17, loads=loads, lies=[(2, "lie", 17)])
        self.same(hand.notes(None), [first, second, (0, "end", "boot", 0)])

    def test_no_lie_touches_the_end(self):
        for many in range(4):
            for lies in all_lies(many):
                hand = Hand("boot", 17, loads=LOADS[:many], lies=lies)
                self.same(hand.notes(None)[-1], (0, "end", "boot", 0))

    def test_all_lies(self):
        for many in range(4):
            for lies in all_lies(many):
                hand = Hand("boot", 17, loads=LOADS[:many], lies=lies)
                for next_hand in (None, Hand("kern", 0), Hand("zzzz", 10 ** 6, loads=LOADS, lies=[(0, "q", 5)]), hand):
                    self.check(hand, next_hand)

    def test_bodies_of_all_sizes(self):
        chance = random.Random(1)
        for body in (0, 1, 9972, 9973, 9974, 999999, 10 ** 6, *[chance.randrange(10 ** 6) for _ in range(30)]):
            self.check(Hand("a", 5, loads=[(3, "b", body)], lies=[(0, "c", body)]), Hand("d", body))
            self.check(Hand("a", body), Hand("d", body))
            self.check(Hand("a", body), None)

    def test_nothing_is_changed_by_noting(self):
        hand = Hand("boot", 17, loads=LOADS, lies=[(3, "lie", 3)])
        before = fields(hand)
        hand.notes(None)
        hand.notes(hand)
        self.same(fields(hand), before)


class Equal(unittest.TestCase):

    def test_of_all_fields(self):
        made = [
            ("boot", 17, (), ()), ("boot", 18, (), ()), ("root", 17, (), ()), ("boot", 17 + 9973, (), ()),
            ("boot", 17, ((0, "a", 1),), ()), ("boot", 17, ((1, "a", 1),), ()), ("boot", 17, ((0, "a", 2),), ()),
            ("boot", 17, ((0, "a", 1), (0, "a", 1)), ()), ("boot", 17, (), ((0, "a", 1),)),
            ("boot", 17, (), ((0, "b", 1),)),
            ("boot", 17, ((0, "a", 1),), ((0, "a", 1),)), ("boot", 17, ((0, "a", 1),), ((1, "a", 1),)),
        ]
        for one in made:
            for other in made:
                left = Hand(one[0], one[1], loads=one[2], lies=one[3])
                right = Hand(other[0], other[1], loads=list(other[2]), lies=list(other[3]))
                self.assertIs(left == right, one == other)
                self.assertIs(left != right, one != other)

    def test_to_nothing_else(self):
        class Looks:
            name, body, loads, lies = "boot", 17, (), ()

        for other in (None, True, False, 0, 17, "boot", "boot:17", [], (), ("boot", 17, (), ()), ["boot", 17], Looks()):
            self.assertIs(Hand("boot", 17) == other, False)
            self.assertIs(Hand("boot", 17) != other, True)

    def test_str(self):
        self.assertEqual(str(Hand("boot", 17)), "boot:17")
        self.assertEqual(str(Hand("a", 0, loads=LOADS, lies=[(0, "lie", 3)])), "a:0")
        self.assertEqual(f"{Hand('zzzz', 10 ** 6)}", "zzzz:1000000")


if __name__ == "__main__":
    unittest.main()
