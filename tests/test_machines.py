"""Machines, their starts, and plans of these [13], [1] (d), (e)."""

import copy
import random
import unittest

from startlog.errors import BadMachine, Fixed, NoBoard, NotYet
from startlog.hands import Hand
from startlog.logs import is_log, is_up
from startlog.machines import Machine, first_false, plan_of
from startlog.mixing import Mixing
from startlog.quotes import is_quote, is_signed, quote_of, values_of
from startlog.reading import read
from startlog.replays import leads_to, replay, shown_rows
from tests.samples import BOARDS, MIXINGS, NAMES, SPAN, THINGS, Asking, plain_boards

BOOT = Hand("boot", 1, loads=[(2, "fan", 17)])
KERN = Hand("kern", 22)
INIT = Hand("init", 0, loads=[(0, "net", 5), (3, "disk", 10 ** 6)])
LIAR = Hand("kern", 23, loads=[(1, "bad", 9)], lies=[(0, "good", 8), (1, "init", 0)])

HANDS = [BOOT, KERN, INIT]

ROWS = [
    [(2, "set", "fan", 2832), (0, "load", "kern", 4835)],
    [(0, "load", "init", 11)],
    [(0, "set", "net", 2014), (3, "set", "disk", 4547), (0, "end", "init", 0)],
]


def note(body):
    """The body's measure, as [4] tells it."""
    return (body * 48271 + 11) % 9973


def all_of(machine):
    """All that is asked of a machine."""
    many = len(machine.boards())
    return (
        machine.state(), machine.starts(), machine.log(), machine.boards(), machine.quote(7),
        machine.quote(8, some=[many - 1]), machine.quote(number=9, some=()),
    )


def up(*places, **names):
    """A machine that is up."""
    machine = Machine(*places, **names)
    machine.start()
    while machine.state() == "going":
        machine.step()
    return machine


def some_hand(chance, many, is_first=False):
    """Any hand that a machine of so many boards may have."""
    def body():
        return chance.choice((0, 1, 17, 10 ** 6, chance.randrange(10 ** 6)))

    loads = [(chance.randrange(many), chance.choice(NAMES), body()) for _ in range(chance.randint(0, 3))]
    places = [place for place in range(len(loads) + 1) if not is_first and chance.random() < 0.3]
    lies = [(place, chance.choice(NAMES), body()) for place in places]
    return Hand(chance.choice(NAMES), body(), loads=loads, lies=lies)


class Plain:
    """What a machine is told to do, kept as a list of rows, as [13] tells it."""

    def __init__(self, hands, many, fixed):
        self.hands, self.many, self.fixed = list(hands), many, fixed
        self.state, self.starts, self.rows, self.left = "off", 0, [], []

    def start(self):
        self.state, self.starts, self.rows, self.left = "going", self.starts + 1, [], list(self.hands)

    def step(self):
        if self.state != "going":
            return ("NotYet", self.state)
        hand = self.left.pop(0)
        if not self.left:
            self.state = "up"
        told = {place: (name, body) for place, name, body in hand.lies}
        rows = []
        for place, (board, name, body) in enumerate(hand.loads):
            name, body = told.get(place, (name, body))
            rows.append((board, "set", name, note(body)))
        if self.left:
            name, body = told.get(len(hand.loads), (self.left[0].name, self.left[0].body))
            rows.append((0, "load", name, note(body)))
        else:
            rows.append((0, "end", hand.name, 0))
        self.rows.extend(rows)
        return rows

    def late(self, board, name, body):
        if self.state != "up":
            return ("NotYet", self.state)
        if board not in range(self.many):
            return ("NoBoard", board)
        self.rows.append((board, "late", name, note(body)))
        return self.rows[-1]

    def reset(self, board, name):
        if self.state != "up":
            return ("NotYet", self.state)
        if board not in range(self.many):
            return ("NoBoard", board)
        if board < self.fixed:
            return ("Fixed", board)
        self.rows.append((board, "reset", name, 0))
        return self.rows[-1]

    def turn(self, place, hand):
        if place not in range(len(self.hands)) or not isinstance(hand, Hand) or (place == 0 and hand.lies):
            return ("BadMachine", "hands")
        if any(load[0] >= self.many for load in hand.loads):
            return ("BadMachine", "hands")
        self.hands[place] = hand
        return None


def done(thing, word, places):
    """What a deed tells, or the class and thing of what it's refused by."""
    try:
        return getattr(thing, word)(*places)
    except (NotYet, NoBoard, Fixed, BadMachine) as refusal:
        return (type(refusal).__name__, refusal.what)


def some_deed(chance, many, hands):
    """The word and arguments of any deed."""
    word = chance.choice(("start", *["step"] * 8, *["late"] * 5, *["reset"] * 4, "turn", "turn"))
    board, name = chance.randint(-1, many), chance.choice(NAMES)
    if word == "late":
        return (word, (board, name, chance.choice((0, 10 ** 6, chance.randrange(10 ** 6)))))
    if word == "reset":
        return (word, (board, name))
    if word == "turn":
        place = chance.randint(-1, hands)
        return (word, (place, some_hand(chance, many, chance.random() < 0.5)))
    return (word, ())


class Made(Asking):

    def test_bare(self):
        for hands in (HANDS, tuple(HANDS)):
            for machine in (Machine("ann", 5, hands), Machine(hands=hands, key=5, name="ann"),
                            Machine("ann", 5, hands, mixing=None, many=4, fixed=2),
                            Machine(fixed=2, many=4, mixing=Mixing(), hands=hands, key=5, name="ann")):
                self.same(machine.state(), "off")
                self.same(machine.starts(), 0)
                self.same(machine.log(), [])
                self.same(machine.boards(), [1, 1, 1, 1])
                self.same(machine.quote(7), quote_of(5, "ann", 0, 7, ((0, 1), (1, 1), (2, 1), (3, 1))))

    def test_edges(self):
        for name in NAMES:
            for key in (0, 1, 10 ** 6):
                self.same(Machine(name, key, [KERN]).quote(3)[:3], (name, 0, 3))
        for many in range(1, 7):
            self.same(Machine("ann", 5, [KERN] * many).state(), "off")
        for many, fixed in BOARDS:
            hand = Hand("kern", 22, loads=[(many - 1, "fan", 3)])
            machine = Machine("ann", 5, [KERN, hand], many=many, fixed=fixed)
            self.same(machine.boards(), [1] * many)

    def test_it_keeps_copies(self):
        hands = list(HANDS)
        machine = Machine("ann", 5, hands)
        hands.clear()
        machine.start()
        self.same([machine.step() for _ in HANDS], ROWS)
        hands.append(LIAR)
        machine.start()
        self.same([machine.step() for _ in HANDS], ROWS)

    def test_by_names_alone(self):
        self.by_names_alone(Machine, "ann", 5, HANDS, None)
        self.by_names_alone(Machine("ann", 5, HANDS).quote, 7, [0])


class Refused(Asking):

    def refused_made(self, what, *places, **names):
        for _ in range(2):
            with self.assertRaises(BadMachine) as caught:
                Machine(*places, **names)
            self.same(caught.exception.what, what)
            self.assertIs(type(caught.exception), BadMachine)

    def test_name(self):
        for name in (*THINGS, "annie", "Ann", "a b"):
            self.refused_made("name", name, 5, HANDS)
            self.refused_made("name", hands=HANDS, key=5, name=name)

    def test_key(self):
        for key in (-1, 10 ** 6 + 1, 10 ** 30, True, False, None, "", "5", [], (), [5], (5,)):
            self.refused_made("key", "ann", key, HANDS)
            self.refused_made("key", hands=HANDS, key=key, name="ann")

    def bad_hands(self):
        lying = Hand("boot", 1, lies=[(0, "kern", 22)])
        far = Hand("kern", 22, loads=[(0, "a", 1), (4, "fan", 3)])
        told = [*THINGS, [], (), KERN, [KERN] * 7, (KERN,) * 7, [KERN] * 8, [lying], [lying, KERN], [LIAR],
                (LIAR, KERN), [far],
                [KERN, far], (KERN, KERN, far), ["boot:1"], [("boot", 1, (), ())], [("boot", 1)], [[KERN]],
                [(KERN,)], "boot:1"]
        for thing in THINGS:
            told.extend([[KERN, thing], [thing, KERN], (KERN, thing, KERN)])
        return told

    def test_hands(self):
        for hands in self.bad_hands():
            self.refused_made("hands", "ann", 5, hands)
            self.refused_made("hands", key=5, hands=hands, name="ann")

    def test_a_loads_board_that_is_not_below_many(self):
        for many in range(1, 9):
            for board in range(8):
                first = Hand("a", 1, loads=[(board, "b", 2)])
                last = Hand("a", 1, loads=[(0, "b", 2), (board, "b", 2)])
                for hands in ([first], [first, KERN], [KERN, last], [KERN, KERN, last, KERN]):
                    if board < many:
                        self.same(Machine("ann", 5, hands, many=many, fixed=0).state(), "off")
                    else:
                        self.refused_made("hands", "ann", 5, hands, many=many, fixed=0)

    def test_lies_of_the_first_alone(self):
        self.refused_made("hands", "ann", 5, [LIAR, KERN])
        self.same(Machine("ann", 5, [KERN, LIAR]).state(), "off")
        self.same(Machine("ann", 5, [KERN, LIAR, LIAR]).state(), "off")

    def test_the_first_of_several(self):
        for name in (None, "Ann"):
            for key in (None, -1, 5):
                for hands in ([], None, HANDS):
                    self.refused_made("name", name, key, hands)
        for key in (None, -1, True):
            for hands in ([], None, HANDS):
                self.refused_made("key", "ann", key, hands)


class Deeds(Asking):

    def refused_deed(self, error, what, machine, asked, *places):
        """Refused, twice, and nothing is changed by it."""
        before = all_of(machine)
        for _ in range(2):
            with self.assertRaises(error) as caught:
                asked(*places)
            self.assertIs(type(caught.exception), error)
            self.same(caught.exception.what, what)
            self.same(all_of(machine), before)


class ByHand(Deeds):

    def test_a_start(self):
        machine = Machine("ann", 5, HANDS)
        self.assertIsNone(machine.start())
        self.same((machine.state(), machine.starts(), machine.log(), machine.boards()), ("going", 1, [], [1] * 4))
        for place in range(3):
            self.same(machine.state(), "going")
            self.same(machine.step(), ROWS[place])
            self.same(machine.log(), [row for rows in ROWS[:place + 1] for row in rows])
            self.same(machine.boards(), plain_boards(None, 7919, machine.log()))
            self.same(machine.starts(), 1)
        self.same(machine.state(), "up")

    def test_of_one_hand(self):
        machine = Machine("ann", 5, [BOOT])
        machine.start()
        self.same(machine.state(), "going")
        self.same(machine.step(), [(2, "set", "fan", 2832), (0, "end", "boot", 0)])
        self.same(machine.state(), "up")

    def test_numbers_of_the_boards(self):
        machine = up("ann", 5, [KERN], mixing=Mixing(101, factor=7))
        number = ((((11 * 27 + 5) * 27 + 18) * 27 + 14) * 5 + 2) * 9973
        self.same(machine.boards(), [(7 + number + 1) % 101, 1, 1, 1])
        self.same(up("ann", 5, [Hand("a", 0)]).boards(), [SPAN + 69812, 1, 1, 1])

    def test_late_and_reset(self):
        machine = up("ann", 5, HANDS)
        ahead = machine.log()
        self.same(machine.late(3, "fan", 17), (3, "late", "fan", 2832))
        self.same(machine.late(body=0, name="a", board=0), (0, "late", "a", 11))
        self.same(machine.reset(3, "fan"), (3, "reset", "fan", 0))
        self.same(machine.boards()[3], 2)
        self.same(machine.reset(name="a", board=2), (2, "reset", "a", 0))
        self.same(machine.late(3, "fan", 0), (3, "late", "fan", 11))
        self.same(machine.log()[len(ahead):], [
            (3, "late", "fan", 2832), (0, "late", "a", 11), (3, "reset", "fan", 0), (2, "reset", "a", 0),
            (3, "late", "fan", 11),
        ])
        self.same(machine.boards(), plain_boards(None, 7919, machine.log()))
        self.same(read(machine.boards()[3]), (True, [("late", "fan", 11)]))
        self.same(machine.state(), "up")

    def test_started_again(self):
        machine = up("ann", 5, HANDS)
        machine.late(3, "fan", 17)
        machine.reset(2, "fan")
        machine.start()
        self.same((machine.state(), machine.starts(), machine.log(), machine.boards()), ("going", 2, [], [1] * 4))
        self.same([machine.step() for _ in range(3)], ROWS)

    def test_started_amid_a_start(self):
        for steps in range(3):
            machine = Machine("ann", 5, HANDS)
            machine.start()
            for _ in range(steps):
                machine.step()
            machine.start()
            self.same((machine.state(), machine.starts(), machine.log(), machine.boards()), ("going", 2, [], [1] * 4))
            self.same([machine.step() for _ in range(3)], ROWS)
            self.same(machine.state(), "up")

    def test_many_starts(self):
        machine = Machine("ann", 5, [KERN])
        for many in range(1, 46):
            machine.start()
            self.same((machine.starts(), machine.quote(3)[1]), (many, many))
            machine.step()
            self.same(machine.log(), [(0, "end", "kern", 0)])

    def test_many_late_ones_and_resets(self):
        machine = up("ann", 5, [KERN])
        for many in range(36):
            machine.late(0, "fan", many)
            machine.reset(3, "fan")
        self.same(machine.boards(), plain_boards(None, 7919, machine.log()))
        self.same(len(machine.log()), 73)

    def test_a_hand_that_lies(self):
        machine = Machine("ann", 5, [BOOT, LIAR, INIT])
        machine.start()
        self.same(machine.step(), [(2, "set", "fan", 2832), (0, "load", "kern", note(23))])
        self.same(machine.step(), [(1, "set", "good", note(8)), (0, "load", "init", 11)])
        self.same(machine.step(), ROWS[2])
        machine = Machine("ann", 5, [BOOT, LIAR])
        machine.start()
        machine.step()
        self.same(machine.step(), [(1, "set", "good", note(8)), (0, "end", "kern", 0)])


class Refusals(Deeds):

    def machines(self):
        """Machines that are off, going and up."""
        off, going, amid = Machine("ann", 5, HANDS), Machine("ann", 5, HANDS), Machine("ann", 5, HANDS)
        going.start()
        amid.start()
        amid.step()
        again = up("ann", 5, HANDS)
        again.start()
        return [("off", off), ("going", going), ("going", amid), ("up", up("ann", 5, HANDS)), ("going", again)]

    def test_not_yet(self):
        for state, machine in self.machines():
            self.same(machine.state(), state)
            if state != "going":
                self.refused_deed(NotYet, state, machine, machine.step)
            if state != "up":
                # Of several that are due NotYet goes first.
                for board in (-1, 0, 1, 2, 3, 4, 9):
                    self.refused_deed(NotYet, state, machine, machine.late, board, "fan", 3)
                    self.refused_deed(NotYet, state, machine, machine.reset, board, "fan")

    def test_no_board(self):
        for many, fixed in BOARDS:
            machine = up("ann", 5, [KERN], many=many, fixed=fixed)
            for board in (-1, -many, many, many + 1, 8, 10 ** 9):
                self.refused_deed(NoBoard, board, machine, machine.late, board, "fan", 3)
                self.refused_deed(NoBoard, board, machine, machine.reset, board, "fan")

    def test_fixed(self):
        for many, fixed in BOARDS:
            machine = up("ann", 5, [KERN], many=many, fixed=fixed)
            for board in range(fixed):
                self.refused_deed(Fixed, board, machine, machine.reset, board, "fan")
                self.same(machine.late(board, "fan", 3), (board, "late", "fan", note(3)))
            for board in range(fixed, many):
                self.same(machine.reset(board, "fan"), (board, "reset", "fan", 0))
                self.same(machine.boards()[board], 2)

    def test_left_out(self):
        machine = up("ann", 5, [KERN])
        for board in (0, 1):
            self.refused_deed(Fixed, board, machine, machine.reset, board, "fan")
        for board in (2, 3):
            machine.reset(board, "fan")
        self.refused_deed(NoBoard, 4, machine, machine.reset, 4, "fan")

    def test_turn(self):
        lying = Hand("boot", 1, lies=[(0, "kern", 22)])
        far = Hand("kern", 22, loads=[(4, "fan", 3)])
        for state, machine in self.machines():
            for place in (-1, -3, 3, 4, 10 ** 9, True, False, None, "0", [], (0,)):
                self.refused_deed(BadMachine, "hands", machine, machine.turn, place, KERN)
            for place in range(3):
                for hand in (*THINGS, far, "boot:1", ("boot", 1, (), ()), [KERN]):
                    self.refused_deed(BadMachine, "hands", machine, machine.turn, place, hand)
            self.refused_deed(BadMachine, "hands", machine, machine.turn, 0, lying)
            self.refused_deed(BadMachine, "hands", machine, machine.turn, 0, LIAR)
            machine.start()
            self.same([machine.step() for _ in range(3)], ROWS)


class Turned(Deeds):

    def test_from_the_next_start_on(self):
        for steps in range(4):
            for place, hand in ((0, KERN), (1, LIAR), (2, BOOT)):
                machine = Machine("ann", 5, HANDS)
                machine.start()
                rows = [machine.step() for _ in range(steps)]
                before = all_of(machine)
                self.assertIsNone(machine.turn(place=place, hand=hand))
                self.same(all_of(machine), before)
                rows.extend(machine.step() for _ in range(3 - steps))
                self.same(rows, ROWS)
                turned = list(HANDS)
                turned[place] = hand
                self.check_starts(machine, turned)

    def check_starts(self, machine, hands):
        """From the next start on these hands are at work."""
        other = Machine("ann", 5, hands)
        for _ in range(2):
            machine.start()
            other.start()
            self.same([machine.step() for _ in hands], [other.step() for _ in hands])
            self.same(machine.boards(), other.boards())

    def test_ahead_of_the_first_start(self):
        machine = Machine("ann", 5, HANDS)
        machine.turn(1, LIAR)
        self.same(machine.state(), "off")
        self.check_starts(machine, [BOOT, LIAR, INIT])

    def test_turned_again(self):
        machine = up("ann", 5, HANDS)
        machine.turn(1, LIAR)
        machine.turn(1, KERN)
        machine.turn(2, LIAR)
        self.check_starts(machine, [BOOT, KERN, LIAR])

    def test_two_machines_that_share_hands(self):
        hands = list(HANDS)
        one, two = Machine("ann", 5, hands), Machine("bob", 6, hands)
        one.turn(1, LIAR)
        one.start()
        two.start()
        one.step()
        self.same(two.log(), [])
        self.same([two.step() for _ in range(3)], ROWS)
        self.same(hands, HANDS)
        self.check_starts(one, [BOOT, LIAR, INIT])

    def test_one_hand_at_several_places(self):
        machine = up("ann", 5, [KERN, KERN, KERN])
        self.same(machine.log(), [(0, "load", "kern", 4835), (0, "load", "kern", 4835), (0, "end", "kern", 0)])


class Quoted(Deeds):

    def check(self, machine, key, name):
        boards = machine.boards()
        for number in (0, 7, 10 ** 6):
            quote = self.told(machine.quote, number)
            self.same(quote, quote_of(key, name, machine.starts(), number, tuple(enumerate(boards))))
            self.same(self.told(machine.quote, number=number, some=None), quote)
            self.same(self.told(machine.quote, number, some=list(range(len(boards)))), quote)
            self.assertTrue(is_quote(quote) and is_signed(key, quote))
            self.same(values_of(quote), boards)
            for some in ([], [0], [len(boards) - 1], list(range(0, len(boards), 2))):
                quote = quote_of(key, name, machine.starts(), number, tuple((board, boards[board]) for board in some))
                self.same(self.told(machine.quote, number, some=some), quote)
                self.same(self.told(machine.quote, some=tuple(some), number=number), quote)

    def test_at_each_state(self):
        for many, fixed in BOARDS:
            width, factor = MIXINGS[(many + fixed) % len(MIXINGS)]
            machine = Machine("ann", 5, [KERN, KERN], many=many, fixed=fixed, mixing=Mixing(width, factor=factor))
            self.check(machine, 5, "ann")
            machine.start()
            self.check(machine, 5, "ann")
            machine.step()
            self.check(machine, 5, "ann")
            machine.step()
            machine.late(many - 1, "fan", 3)
            self.check(machine, 5, "ann")
            machine.start()
            self.check(machine, 5, "ann")

    def test_of_other_keys_and_names(self):
        for name in NAMES:
            for key in (0, 10 ** 6):
                self.check(up(name, key, HANDS), key, name)

    def test_its_log_leads_to_the_quoted_boards(self):
        machine = up("ann", 5, HANDS)
        machine.reset(3, "fan")
        self.assertIs(leads_to(Mixing(), machine.log(), values_of(machine.quote(7))), True)


class Histories(Deeds):

    def test_beside_a_plain_reckoning(self):
        for seed in range(120):
            chance = random.Random(seed)
            many, fixed = BOARDS[seed % len(BOARDS)]
            width, factor = MIXINGS[seed % len(MIXINGS)]
            hands = [some_hand(chance, many, place == 0) for place in range(chance.randint(1, 6))]
            mixing = Mixing(width, factor=factor)
            machine = Machine("ann", 5, hands, mixing=mixing, many=many, fixed=fixed)
            plain = Plain(hands, many, fixed)
            twin = machine.twin()
            for _ in range(40):
                word, places = some_deed(chance, many, len(hands))
                told = done(plain, word, places)
                self.same(done(machine, word, places), told)
                self.same(done(twin, word, places), told)
                boards = plain_boards(width, factor, plain.rows, many)
                for one in (machine, twin):
                    self.same((one.state(), one.starts(), one.log(), one.boards()),
                              (plain.state, plain.starts, plain.rows, boards))
                self.assertIs(is_log(machine.log(), many=many, fixed=fixed), True)
                self.assertIs(is_up(machine.log()), machine.state() == "up")
                self.same(replay(mixing, machine.log(), many=many, fixed=fixed), machine.boards())

    def test_wide_boards_tell_the_log(self):
        for seed in range(30):
            chance = random.Random(seed)
            machine = up("ann", 5, [some_hand(chance, 4, place == 0) for place in range(6)])
            for _ in range(30):
                done(machine, *some_deed(chance, 4, 0))
                if machine.state() == "up":
                    self.same([read(value) for value in machine.boards()], shown_rows(machine.log()))


class Twins(Deeds):

    def test_nothing_is_changed_by_what_is_done_to_the_other(self):
        for seed in range(60):
            chance = random.Random(seed)
            hands = [some_hand(chance, 4, place == 0) for place in range(3)]
            width, factor = MIXINGS[seed % len(MIXINGS)]
            machine = Machine("ann", 5, hands, mixing=Mixing(width, factor=factor))
            for _ in range(seed % 12):
                done(machine, *some_deed(chance, 4, 3))
            twin = machine.twin()
            before = all_of(machine)
            self.same(all_of(twin), before)
            for _ in range(12):
                done(twin, *some_deed(chance, 4, 3))
            self.same(all_of(machine), before)
            other = machine.twin()
            for _ in range(12):
                done(machine, *some_deed(chance, 4, 3))
            self.same(all_of(other), before)

    def test_of_turned_hands(self):
        machine = Machine("ann", 5, HANDS)
        machine.start()
        machine.turn(1, LIAR)
        twin = machine.twin()
        machine.turn(1, KERN)
        self.same([twin.step() for _ in range(3)], ROWS)
        twin.start()
        self.same([twin.step() for _ in range(3)][1], [(1, "set", "good", note(8)), (0, "load", "init", 11)])
        twin = machine.twin()
        twin.turn(2, BOOT)
        machine.start()
        self.same([machine.step() for _ in range(3)], ROWS)

    def test_a_twins_twin_refuses_alike(self):
        machine = Machine("ann", 5, HANDS, many=5, fixed=3)
        twin = machine.twin().twin()
        self.refused_deed(NotYet, "off", twin, twin.step)
        twin.start()
        for _ in range(3):
            twin.step()
        self.refused_deed(Fixed, 2, twin, twin.reset, 2, "fan")
        self.refused_deed(NoBoard, 5, twin, twin.reset, 5, "fan")
        self.same(twin.reset(4, "fan"), (4, "reset", "fan", 0))
        self.same(machine.state(), "off")


class Own(Deeds):

    def test_what_is_told_changed_leaves_it_as_it_was(self):
        machine = up("ann", 5, HANDS)
        for asked in (machine.log, machine.boards):
            self.own(asked)
        machine.start()
        rows = machine.step()
        rows.clear()
        self.same(machine.log(), ROWS[0])
        rows = machine.step()
        rows.append("more")
        self.same(machine.log(), ROWS[0] + ROWS[1])
        self.assertIsNot(machine.log(), machine.log())

    def test_asking_changes_nothing(self):
        machine = up("ann", 5, HANDS)
        before = copy.deepcopy(all_of(machine))
        for _ in range(3):
            self.same(all_of(machine), before)
            machine.twin()

    def test_some_stays_as_it_was(self):
        machine = up("ann", 5, HANDS)
        some = [0, 2]
        machine.quote(7, some=some)
        self.same(some, [0, 2])


class PlanOf(Asking):

    def check(self, hands, rows):
        for told in (list(hands), tuple(hands)):
            self.same(plan_of(told), rows)
            self.same(plan_of(hands=told), rows)
            self.own(plan_of, told)

    def test_by_hand(self):
        self.check([KERN], [(0, "end", "kern", 0)])
        self.check(HANDS, [row for rows in ROWS for row in rows])

    def test_lies_are_left_out(self):
        self.check([BOOT, LIAR, INIT], [
            (2, "set", "fan", 2832), (0, "load", "kern", note(23)), (1, "set", "bad", note(9)), (0, "load", "init", 11),
            *ROWS[2],
        ])
        self.check([LIAR], [(1, "set", "bad", note(9)), (0, "end", "kern", 0)])

    def test_the_log_of_a_machine_of_hands_without_lies(self):
        for seed in range(60):
            chance = random.Random(seed)
            hands = [some_hand(chance, 4) for _ in range(chance.randint(1, 6))]
            true = [Hand(hand.name, hand.body, loads=hand.loads) for hand in hands]
            self.check(hands, up("ann", 5, true).log())
            self.check(true, up("ann", 5, true).log())


class FirstFalse(Asking):

    def check(self, plan, log, place):
        for one in (plan, tuple(plan)):
            for other in (log, tuple(log)):
                self.same(self.ways(first_false, {"plan": one, "log": other}), place)

    def test_by_hand(self):
        plan = plan_of(HANDS)
        self.check([], [], None)
        self.check(plan, [], None)
        self.check([], plan, None)
        self.check(plan, plan, None)
        other = (5, "late", "q", 3)
        for place in range(len(plan)):
            self.check(plan, plan[:place], None)
            self.check(plan[:place], plan, None)
            self.check(plan, [*plan[:place], other, *plan[place + 1:]], place)
            self.check(plan, [*plan[:place], other], place)
            self.check(plan[:place], [*plan[:place], other], None)
            self.check(plan, [*plan[:place], other, *plan[place:]], place)
        self.check(plan, [*plan, other], None)
        self.check([*plan[:2], other, *plan[2:]], [other] + plan, 0)

    def test_each_part_of_a_row(self):
        plan = plan_of(HANDS)
        for row in (
            (3, "set", "fan", 2832), (2, "load", "fan", 2832), (2, "set", "fam", 2832), (2, "set", "fan", 2833),
        ):
            self.check(plan, [row, *plan[1:]], 0)

    def test_the_first_false_row_was_noted_by_a_hand_of_the_plan(self):
        found = 0
        for seed in range(400):
            chance = random.Random(seed)
            # By name and note, one hand each, so that those of one name and note do alike.
            pool = {}
            for _ in range(8):
                hand = some_hand(chance, 4)
                pool.setdefault((hand.name, note(hand.body)), hand)
            pool = list(pool.values())
            true = [hand for hand in pool if not hand.lies] or [KERN]
            planned = [chance.choice(true) for _ in range(chance.randint(1, 6))]
            hands = [planned[0]]
            for place in range(1, chance.randint(1, 6)):
                kept = chance.random() < 0.6 and place < len(planned)
                hands.append(planned[place] if kept else chance.choice(pool))
            found += self.check_history(plan_of(planned), planned, Machine("ann", 5, hands), hands)
        self.assertGreater(found, 100)

    def check_history(self, plan, planned, machine, hands):
        machine.start()
        noted = []
        for place, hand in enumerate(hands):
            noted.extend([place] * len(machine.step()))
        place = first_false(plan, machine.log())
        if place is None:
            return False
        self.same(machine.log()[:place], plan[:place])
        self.assertLess(noted[place], len(planned))
        for hand, other in list(zip(hands, planned))[:noted[place] + 1]:
            self.same((hand.name, note(hand.body)), (other.name, note(other.body)))
        return True


if __name__ == "__main__":
    unittest.main()
