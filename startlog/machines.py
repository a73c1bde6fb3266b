"""Machines, started by their hands, and the plans of their starts."""

from startlog.errors import BadMachine, Fixed, NoBoard, NotYet
from startlog.hands import Hand, true_notes
from startlog.measures import measure
from startlog.mixing import Mixing
from startlog.names import is_name
from startlog.quotes import quote_of
from startlog.replays import behind_row
from startlog.whole import is_within
from startlog.words import BOARDS, FIXED

GREATEST_KEY = 10 ** 6

MOST_HANDS = 6


def are_hands(thing, many):
    """Whether a machine of so many boards may have these hands."""
    if not isinstance(thing, (list, tuple)) or not 1 <= len(thing) <= MOST_HANDS:
        return False
    if not all([isinstance(hand, Hand) for hand in thing]):
        return False
    boards = [load[0] for hand in thing for load in hand.loads]
    return len(thing[0].lies) == 0 and all([board < many for board in boards])


class Machine:
    """A machine, its boards and its log."""

    def __init__(self, name, key, hands, *, mixing=None, many=BOARDS, fixed=FIXED):
        if not is_name(name):
            raise BadMachine("name")
        if not is_within(key, 0, GREATEST_KEY):
            raise BadMachine("key")
        if not are_hands(hands, many):
            raise BadMachine("hands")
        self.name = name
        self.key = key
        self.mixing = Mixing() if mixing is None else mixing
        self.many = many
        self.fixed = fixed
        # Hands may be turned amid a start, but those of the start stay at work.
        self.hands = list(hands)
        self.working = []
        # The place of the hand at work: None where it's off, behind the last one where it's up.
        self.place = None
        self.times = 0
        self.clear_boards()

    def clear_boards(self):
        """All boards begin, and the log is bare."""
        self.numbers = [self.mixing.begin()] * self.many
        self.rows = []

    def start(self):
        """All boards begin, and the first hand is at work."""
        self.clear_boards()
        self.working = list(self.hands)
        self.place = 0
        self.times += 1

    def note_row(self, row):
        """One row more, on its board and in the log."""
        self.numbers[row[0]] = behind_row(self.mixing, self.numbers[row[0]], row)
        self.rows.append(row)

    def refuse_unless(self, state):
        """NotYet where the machine's state is another one."""
        if self.state() != state:
            raise NotYet(self.state())

    def refuse_unless_board(self, board):
        """NoBoard where the machine has no such board."""
        if not is_within(board, 0, self.many - 1):
            raise NoBoard(board)

    def step(self):
        """The hand at work notes its rows, which are told, and the next one is at work."""
        self.refuse_unless("going")
        hand = self.working[self.place]
        self.place += 1
        noted = hand.notes(None if self.place == len(self.working) else self.working[self.place])
        for row in noted:
            self.note_row(row)
        return noted

    def late(self, board, name, body):
        """A late row more, which is told."""
        self.refuse_unless("up")
        self.refuse_unless_board(board)
        row = (board, "late", name, measure(body))
        self.note_row(row)
        return row

    def reset(self, board, name):
        """The board begins anew; the row that is noted of it is told."""
        self.refuse_unless("up")
        self.refuse_unless_board(board)
        if board < self.fixed:
            raise Fixed(board)
        row = (board, "reset", name, 0)
        self.note_row(row)
        return row

    def turn(self, place, hand):
        """Another hand stands at this place from the next start on."""
        if not is_within(place, 0, len(self.hands) - 1):
            raise BadMachine("hands")
        hands = list(self.hands)
        hands[place] = hand
        if not are_hands(hands, self.many):
            raise BadMachine("hands")
        self.hands = hands

    def state(self):
        """off, going or up."""
        if self.place is None:
            return "off"
        return "going" if self.place < len(self.working) else "up"

    def starts(self):
        """How many times it was started."""
        return self.times

    def log(self):
        """The rows that were noted since the start."""
        return list(self.rows)

    def boards(self):
        """The boards' numbers."""
        return list(self.numbers)

    def quote(self, number, *, some=None):
        """Some boards' numbers, or all, with this number, signed."""
        boards = list(range(self.many)) if some is None else some
        values = tuple([(board, self.numbers[board]) for board in boards])
        return quote_of(self.key, self.name, self.times, number, values)

    def twin(self):
        """Another machine, alike in all that is asked."""
        other = Machine(self.name, self.key, self.hands, mixing=self.mixing, many=self.many, fixed=self.fixed)
        other.working = list(self.working)
        other.place = self.place
        other.times = self.times
        other.numbers = list(self.numbers)
        other.rows = list(self.rows)
        return other


def plan_of(hands):
    """The rows of a start of these hands, their lies left out."""
    rows = []
    for hand, next_hand in zip(hands, [*hands[1:], None]):
        rows.extend(true_notes(hand, next_hand))
    return rows


def first_false(plan, log):
    """The first place below both lengths at which they are unlike, None where there is none."""
    for place, (row, other) in enumerate(zip(plan, log)):
        if row != other:
            return place
    return None
