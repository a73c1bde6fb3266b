"""The hands that start a machine, and what they note."""

from startlog.errors import BadHand
from startlog.measures import measure
from startlog.names import is_name
from startlog.rows import MOST_BOARDS
from startlog.whole import is_within

GREATEST_BODY = 10 ** 6

MOST_LOADS = 3


def is_placed_body(thing, greatest):
    """Whether thing is (number to greatest, NAME, body)."""
    if not isinstance(thing, tuple) or len(thing) != 3:
        return False
    number, name, body = thing
    return is_within(number, 0, greatest) and is_name(name) and is_within(body, 0, GREATEST_BODY)


def are_loads(thing):
    """Whether a hand may have these loads."""
    if not isinstance(thing, (list, tuple)) or len(thing) > MOST_LOADS:
        return False
    return all([is_placed_body(load, MOST_BOARDS - 1) for load in thing])


def are_lies(thing, loads):
    """Whether a hand of these loads may have these lies."""
    if not isinstance(thing, (list, tuple)):
        return False
    if not all([is_placed_body(lie, len(loads)) for lie in thing]):
        return False
    return all([lie[0] < after[0] for lie, after in zip(thing, thing[1:])])


def true_notes(hand, next_hand):
    """The rows that this hand would note if it had no lies."""
    rows = [(board, "set", name, measure(body)) for board, name, body in hand.loads]
    if next_hand is None:
        return [*rows, (0, "end", hand.name, 0)]
    return [*rows, (0, "load", next_hand.name, measure(next_hand.body))]


class Hand:
    """One of those that start a machine; where it lies it notes another thing than it loads."""

    def __init__(self, name, body, *, loads=(), lies=()):
        if not is_name(name):
            raise BadHand("name")
        if not is_within(body, 0, GREATEST_BODY):
            raise BadHand("body")
        if not are_loads(loads):
            raise BadHand("loads")
        if not are_lies(lies, loads):
            raise BadHand("lies")
        self.name = name
        self.body = body
        self.loads = tuple(loads)
        self.lies = tuple(lies)

    def notes(self, next_hand):
        """The rows that it notes, ahead of letting next_hand go to work; None behind the last one."""
        rows = true_notes(self, next_hand)
        for place, name, body in self.lies:
            board, word, true_name, true_note = rows[place]
            # Behind the last hand there is nothing to lie about.
            if word != "end":
                rows[place] = (board, word, name, measure(body))
        return rows

    def __eq__(self, other):
        return (isinstance(other, Hand) and self.name == other.name and self.body == other.body
                and self.loads == other.loads and self.lies == other.lies)

    def __str__(self):
        return f"{self.name}:{self.body}"
