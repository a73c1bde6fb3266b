"""A yard of machines, their asker's book, and a runner between them [23], [1] (f)."""

import collections
import copy
import unittest

from startlog.errors import (
    BadMachine, BadStep, Fixed, Known, NoBoard, NoNumber, NoPacket, NotYet, TooMany, Unknown,
)
from startlog.hands import Hand
from startlog.machines import Machine, plan_of
from startlog.mixing import Mixing
from startlog.quotes import is_signed, quote_of
from startlog.replays import leads_to
from startlog.yard import Yard
from tests.books import BOOT, HANDS, INIT, KERN, LIAR, all_of, outcome, some_mixing
from tests.policies import seeded, some_policy
from tests.samples import NAMES, THINGS, Asking
from tests.yards import PlainYard, all_of_machine, all_of_yard, plain_plan

ROW = (1, "late", "net", 5)


def built(*names, life=9, **over):
    """A yard of machines of these names, or of ann, all off."""
    yard = Yard(life=life)
    for name in names or ("ann",):
        yard.build(name, 5, HANDS, **over)
    return yard


def up(*names, life=9, **over):
    """The same, all up."""
    yard = built(*names, life=life, **over)
    for name in names or ("ann",):
        yard.start(name)
        for _ in HANDS:
            yard.step(name)
    return yard


def with_packets(many, *names, **over):
    """Such a yard with so many packets on the way, of the machines in turn."""
    yard = up(*names, **over)
    for k in range(many):
        name = (names or ("ann",))[k % len(names or ("ann",))]
        yard.ask(name)
        yard.answer(name)
        yard.late(name, 1, "disk", k)
    return yard


class Checking(Asking):

    def refused_by(self, error, what, yard, deed, *places, **names):
        """Refused by just this class with just this thing, and all is as it was."""
        before = all_of_yard(yard)
        self.refused(error, what, getattr(yard, deed), *places, **names)
        self.same(all_of_yard(yard), before)


class Build(Checking):

    def test_a_new_yard(self):
        for yard in (Yard(), Yard(life=1)):
            self.assertEqual(len(yard), 0)
            self.same(yard.on_way(), [])
            self.assertEqual(yard.book().names(), [])
        self.by_names_alone(Yard, 9)

    def test_build(self):
        yard = Yard()
        self.assertIsNone(yard.build("ann", 5, HANDS))
        self.assertIsNone(yard.build(hands=(KERN,), key=0, name="bob"))
        self.assertIsNone(yard.build("zzzz", 10 ** 6, HANDS, fixed=0, many=8, policy=[("must", "a")], mixing=Mixing(101)))
        self.by_names_alone(yard.build, "eve", 5, HANDS, None)
        self.same(yard.book().names(), ["ann", "bob", "zzzz"])
        for name, key, hands, names in (("ann", 5, HANDS, {}), ("bob", 0, [KERN], {}),
                                        ("zzzz", 10 ** 6, HANDS, {"mixing": Mixing(101), "many": 8, "fixed": 0})):
            self.same(all_of_machine(yard.machine(name)), all_of_machine(Machine(name, key, hands, **names)))

    def test_known_with_its_plan_key_mixing_and_policy(self):
        for hands, policy, word in (
            ([BOOT, KERN], [], "good"), ([BOOT, KERN], [("most", "kern", 0)], "policy"), ([BOOT, LIAR, INIT], [], "plan"),
            ([KERN], [("must", "kern")], "good"),
        ):
            for mixing in (None, Mixing(101, factor=7)):
                for many, fixed in ((4, 2), (5, 0), (8, 8)):
                    yard = Yard()
                    yard.build("ann", 77, hands, mixing=mixing, policy=policy, many=many, fixed=fixed)
                    yard.start("ann")
                    for _ in hands:
                        yard.step("ann")
                    if fixed < many:
                        yard.reset("ann", many - 1, "fan")
                    yard.ask("ann")
                    yard.answer("ann")
                    self.assertEqual(yard.carry(), word)

    def test_bad_machines(self):
        yard = built()
        for thing in (*THINGS, "Ann", "abcde"):
            self.refused_by(BadMachine, "name", yard, "build", thing, 5, HANDS)
        for thing in (-1, 10 ** 6 + 1, True, None, "5", [5], (5,)):
            self.refused_by(BadMachine, "key", yard, "build", "bob", thing, HANDS)
        for thing in ([], (), [BOOT] * 7, [LIAR, KERN], [BOOT, None], None, 5, "boot", [Hand("a", 1, loads=[(4, "b", 1)])]):
            self.refused_by(BadMachine, "hands", yard, "build", "bob", 5, thing)
        self.refused_by(BadMachine, "hands", yard, "build", "bob", 5, HANDS, many=3)

    def test_known_and_too_many(self):
        yard = built(*NAMES[:7])
        self.refused_by(Known, NAMES[3], yard, "build", NAMES[3], 6, [KERN])
        self.refused_by(BadMachine, "key", yard, "build", NAMES[3], -1, [KERN])
        yard.build("ann", 5, HANDS)
        self.refused_by(TooMany, 8, yard, "build", "bob", 6, [KERN])
        self.refused_by(Known, "ann", yard, "build", "ann", 6, [KERN])
        self.refused_by(BadMachine, "hands", yard, "build", "bob", 6, [])
        self.refused_by(Unknown, "bob", yard, "start", "bob")

    def test_a_refused_build_leaves_its_machine_as_it_was(self):
        yard = up()
        yard.late("ann", 1, "net", 5)
        self.refused_by(Known, "ann", yard, "build", "ann", 5, [KERN])
        self.assertEqual(yard.machine("ann").state(), "up")


class MachineDeeds(Checking):

    def test_unknown(self):
        for yard in (Yard(), built(), with_packets(2)):
            for name in ("bob", "an", "anna"):
                for deed, places in (
                    ("start", ()), ("step", ()), ("late", (1, "net", 5)), ("reset", (2, "net")), ("turn", (0, KERN)),
                    ("ask", ()), ("answer", ()), ("machine", ()), ("late", (99, "net", 5)), ("turn", (99, None)),
                ):
                    self.refused_by(Unknown, name, yard, deed, name, *places)
                self.refused(Unknown, name, yard.machine, name=name)

    def test_as_of_the_machine(self):
        yard, machine = built(), Machine("ann", 5, HANDS)
        for deed, places in (
            ("step", ()), ("late", (1, "net", 5)), ("reset", (3, "net")), ("turn", (1, LIAR)), ("start", ()),
            ("late", (1, "net", 5)), ("reset", (3, "net")), ("step", ()), ("step", ()), ("step", ()), ("step", ()),
            ("late", (1, "net", 5)), ("reset", (3, "net")), ("late", (4, "net", 5)), ("reset", (4, "net")),
            ("reset", (1, "net")), ("late", (-1, "net", 5)), ("turn", (0, LIAR)), ("turn", (3, KERN)), ("turn", (2, KERN)),
            ("start", ()), ("step", ()), ("start", ()), ("step", ()), ("step", ()), ("step", ()),
        ):
            self.same(outcome(getattr(yard, deed), "ann", *places), outcome(getattr(machine, deed), *places))
            self.same(all_of_machine(yard.machine("ann")), all_of_machine(machine))

    def test_by_names(self):
        yard = built()
        self.assertIsNone(yard.start(name="ann"))
        self.same(yard.step(name="ann"), [(2, "set", "fan", 2832), (0, "load", "kern", 4835)])
        yard.step("ann")
        yard.step("ann")
        self.same(yard.late(body=17, row_name="net", board=1, name="ann"), (1, "late", "net", 2832))
        self.same(yard.reset(row_name="net", board=3, name="ann"), (3, "reset", "net", 0))
        self.assertIsNone(yard.turn(hand=KERN, place=1, name="ann"))
        self.same(yard.ask(name="ann"), 1)
        self.assertIsNone(yard.answer(name="ann"))
        self.same(all_of_machine(yard.machine(name="ann")), all_of_machine(yard.machine("ann")))

    def test_refused_in_each_state(self):
        off, going, whole = built(), built(), up()
        going.start("ann")
        for yard, state in ((off, "off"), (whole, "up")):
            self.refused_by(NotYet, state, yard, "step", "ann")
        for yard, state in ((off, "off"), (going, "going")):
            self.refused_by(NotYet, state, yard, "late", "ann", 1, "net", 5)
            self.refused_by(NotYet, state, yard, "reset", "ann", 9, "net")
        self.refused_by(NoBoard, 4, whole, "late", "ann", 4, "net", 5)
        self.refused_by(NoBoard, 4, whole, "reset", "ann", 4, "net")
        self.refused_by(Fixed, 1, whole, "reset", "ann", 1, "net")
        for yard in (off, going, whole):
            self.refused_by(BadMachine, "hands", yard, "turn", "ann", 3, KERN)
            self.refused_by(BadMachine, "hands", yard, "turn", "ann", 0, LIAR)
            self.refused_by(BadMachine, "hands", yard, "turn", "ann", 0, None)

    def test_a_turned_hand_isnt_the_plans(self):
        yard = up()
        yard.turn("ann", 1, Hand("kern", 23))
        for start, word in ((False, "good"), (True, "plan")):
            if start:
                yard.start("ann")
                for _ in HANDS:
                    yard.step("ann")
            yard.ask("ann")
            yard.answer("ann")
            self.assertEqual(yard.carry(), word)


class AskAndAnswer(Checking):

    def test_ask(self):
        yard = built("ann", "bob")
        self.same([yard.ask(name) for name in ("ann", "bob", "bob", "ann")], [1, 2, 3, 4])
        self.same((yard.book().asked("ann"), yard.book().asked("bob")), ([1, 4], [2, 3]))

    def test_answer_in_each_state(self):
        yard = built()
        self.refused_by(NotYet, "off", yard, "answer", "ann")
        yard.ask("ann")
        self.refused_by(NotYet, "off", yard, "answer", "ann")
        yard = built()
        yard.start("ann")
        self.refused_by(NoNumber, "ann", yard, "answer", "ann")
        yard.ask("ann")
        for _ in range(4):
            machine = yard.machine("ann")
            self.assertIsNone(yard.answer("ann"))
            self.same(yard.on_way()[-1], (machine.quote(1), machine.log()))
            if machine.state() == "going":
                yard.step("ann")
        self.assertEqual(len(yard), 4)

    def test_off_goes_ahead_of_no_number(self):
        self.refused_by(NotYet, "off", built(), "answer", "ann")

    def test_the_last_number(self):
        yard = up("ann", "bob")
        for _ in range(3):
            yard.ask("ann")
        yard.ask("bob")
        yard.answer("ann")
        yard.answer("bob")
        yard.answer("ann")
        self.same([quote[2] for quote, _ in yard.on_way()], [3, 4, 3])
        self.same([quote[0] for quote, _ in yard.on_way()], ["ann", "bob", "ann"])
        self.assertTrue(is_signed(5, yard.on_way()[0][0]))
        self.refused_by(Unknown, "eve", yard, "answer", "eve")

    def test_a_number_is_kept_over_lapses_and_starts(self):
        yard = up(life=1)
        yard.ask("ann")
        yard.tick()
        yard.start("ann")
        yard.answer("ann")
        self.same(yard.on_way()[0][0][1:3], (2, 1))
        self.assertEqual(yard.carry(), "number")

    def test_what_is_on_the_way_stays_as_it_was(self):
        yard = up()
        yard.ask("ann")
        yard.answer("ann")
        before = yard.on_way()
        yard.late("ann", 1, "net", 5)
        yard.start("ann")
        yard.ask("ann")
        self.same(yard.on_way(), before)


class Runner(Checking):

    def test_no_packet(self):
        for many in (0, 1, 3):
            yard = with_packets(many)
            for place in (many, many + 1, -1, -many - 1, 10 ** 6):
                for deed, places in (("carry", ()), ("keep", ()), ("lose", ()), ("bend", (("out", 0),)), ("forge", (5,)),
                                     ("swap", (0,)), ("bend", (None,)), ("swap", (place,))):
                    self.refused_by(NoPacket, place, yard, deed, place, *places)
                if many:
                    self.refused_by(NoPacket, place, yard, "swap", many - 1, place)
            self.refused_by(NoPacket, -1, yard, "swap", -1, many)
            self.refused_by(NoPacket, many, yard, "swap", many, -1)
        for deed in ("carry", "keep", "lose"):
            self.refused_by(NoPacket, 0, built(), deed)

    def test_carry(self):
        yard = with_packets(3)
        packets = yard.on_way()
        self.assertEqual(yard.carry(1), "good")
        self.same(yard.on_way(), [packets[0], packets[2]])
        self.assertEqual(yard.carry(place=1), "good")
        self.assertEqual(yard.carry(), "cut")
        self.same((len(yard), yard.book().history("ann")), (0, [(2, "good"), (3, "good"), (1, "cut")]))

    def test_keep(self):
        yard = with_packets(2)
        packets = yard.on_way()
        self.assertEqual(yard.keep(), "good")
        self.assertEqual(yard.keep(0), "number")
        self.assertEqual(yard.keep(place=1), "good")
        self.same(yard.on_way(), packets)
        self.assertEqual(yard.carry(1), "number")
        self.same(yard.book().history("ann"), [(1, "good"), (2, "good")])

    def test_lose(self):
        yard = with_packets(4)
        packets = yard.on_way()
        self.assertIsNone(yard.lose())
        self.assertIsNone(yard.lose(2))
        self.assertIsNone(yard.lose(place=0))
        self.same(yard.on_way(), packets[2:3])
        self.same(yard.book().asked("ann"), [1, 2, 3, 4])

    def test_swap(self):
        yard = with_packets(3)
        (one, a), (two, b), (three, c) = yard.on_way()
        self.assertIsNone(yard.swap(0, 2))
        self.same(yard.on_way(), [(one, c), (two, b), (three, a)])
        self.assertIsNone(yard.swap(other=1, place=2))
        self.same(yard.on_way(), [(one, c), (two, a), (three, b)])
        for place in range(3):
            self.assertIsNone(yard.swap(place, place))
        self.same(yard.on_way(), [(one, c), (two, a), (three, b)])
        self.assertEqual([yard.carry() for _ in range(3)], ["boards"] * 3)

    def test_bend(self):
        yard = with_packets(2)
        quote, log = yard.on_way()[0]
        for step, behind in (
            (("out", 0), log[1:]), (("put", 0, ROW), [ROW, *log]), (("put", len(log), ROW), [*log, ROW]),
            (("turn", 1, ROW), [log[0], ROW, *log[2:]]), (("move", 0, 2), [log[1], log[2], log[0], *log[3:]]),
        ):
            twin = yard.twin()
            self.assertIsNone(twin.bend(0, step))
            self.same(twin.on_way(), [(quote, behind), yard.on_way()[1]])
            # By the move no board has its rows otherwise.
            self.assertEqual(twin.carry(), "plan" if step[0] == "move" else "boards")
        self.assertIsNone(yard.bend(step=("put", 0, ROW), place=1))
        self.assertIsNone(yard.bend(1, ("out", 0)))
        self.assertEqual([yard.carry(), yard.carry()], ["good", "good"])

    def test_bad_steps(self):
        yard = with_packets(2)
        many = len(yard.on_way()[1][1])
        for step in (*THINGS, ("out", many), ("out", -1), ("out",), ("put", many + 1, ROW), ("put", 0, None),
                     ("turn", 0, yard.on_way()[1][1][0]), ("move", 0, 0), ("move", 0, many), ["out", 0], ("outs", 0)):
            self.refused_by(BadStep, step, yard, "bend", 1, step)
            self.refused_by(NoPacket, 2, yard, "bend", 2, step)

    def test_bent_to_nothing(self):
        yard = with_packets(1)
        for _ in yard.on_way()[0][1]:
            yard.bend(0, ("out", 0))
        self.same(yard.on_way()[0][1], [])
        self.refused_by(BadStep, ("out", 0), yard, "bend", 0, ("out", 0))

    def test_forge(self):
        yard = with_packets(2)
        quote, log = yard.on_way()[0]
        for key in (0, 5, 10 ** 6):
            twin = yard.twin()
            self.assertIsNone(twin.forge(0, key))
            forged = quote_of(key, "ann", 1, 2, quote[3])
            self.same(twin.on_way(), [(forged, log), yard.on_way()[1]])
            self.assertEqual(twin.carry(), "good" if key == 5 else "sign")
        self.assertIsNone(yard.forge(key=5, place=0))
        self.assertIsNone(yard.forge(0, 5))
        self.same(yard.on_way()[0][0][2], 3)
        self.assertEqual(yard.carry(), "number")

    def test_tick(self):
        for life in (1, 2, 9):
            for ticks in range(11):
                yard = with_packets(1, life=life)
                for _ in range(ticks):
                    self.assertIsNone(yard.tick())
                self.same(yard.book().asked("ann"), [1] if ticks < life else [])
                self.assertEqual(yard.carry(), "good" if ticks < life else "number")

    def test_sixty_packets_and_more(self):
        yard = with_packets(65, "ann", "bob", "eve")
        self.assertEqual(len(yard), 65)
        self.assertEqual([yard.carry() for _ in range(65)], ["good"] * 65)
        self.assertEqual([len(yard.book().history(name)) for name in ("ann", "bob", "eve")], [22, 22, 21])


    def test_eight_machines_and_sixty_packets(self):
        yard = with_packets(60, *NAMES[:8], life=99)
        self.refused_by(TooMany, 8, yard, "build", "ann", 5, HANDS)
        self.assertEqual(yard.book().names(), sorted(NAMES[:8]))
        yard.swap(0, 59)
        yard.bend(8, ("out", 0))
        yard.forge(16, 6)
        yard.lose(24)
        # The last log of each machine first, so that all others of it are cut; three have another's rows, or too few.
        self.assertEqual(collections.Counter(yard.carry(58 - k) for k in range(59)),
                         collections.Counter({"cut": 47, "good": 8, "sign": 1, "boards": 3}))
        self.assertEqual(len(yard), 0)
        self.assertEqual(sum(len(yard.book().history(name)) for name in NAMES[:8]), 58)


class Twins(Checking):

    def test_alike_and_apart(self):
        yard = with_packets(3, "ann", "bob")
        before = all_of_yard(yard)
        twin = yard.twin()
        again = twin.twin()
        self.same((all_of_yard(twin), all_of_yard(again)), (before, before))
        twin.carry()
        twin.swap(0, 1)
        twin.bend(0, ("out", 0))
        twin.forge(1, 7)
        twin.start("bob")
        twin.late("ann", 1, "net", 5)
        twin.ask("ann")
        twin.tick()
        twin.build("eve", 5, HANDS)
        self.same((all_of_yard(yard), all_of_yard(again)), (before, before))
        behind = all_of_yard(twin)
        yard.carry(2)
        yard.start("ann")
        yard.ask("bob")
        self.same((all_of_yard(twin), all_of_yard(again)), (behind, before))

    def test_a_twin_goes_on_alike(self):
        for _, chance in seeded(6):
            yard = with_packets(2, "ann", "bob", life=chance.choice((1, 2, 9)))
            yard.tick()
            twin = yard.twin()
            for one in (yard, twin):
                one.answer("ann")
                one.ask("bob")
                one.answer("bob")
                one.turn("ann", 1, LIAR)
                one.start("ann")
            self.same(all_of_yard(yard), all_of_yard(twin))
            self.same([yard.carry() for _ in range(4)], [twin.carry() for _ in range(4)])

    def test_a_twin_has_its_turned_hands_life_and_last_numbers(self):
        yard = built(life=2)
        yard.turn("ann", 1, LIAR)
        yard.ask("ann")
        yard.tick()
        twin = yard.twin()
        twin.start("ann")
        twin.step("ann")
        self.same(twin.step("ann"), [(0, "load", "good", (8 * 48271 + 11) % 9973)])
        twin.answer("ann")
        self.same(twin.on_way()[0][0][2], 1)
        twin.tick()
        self.same((yard.book().asked("ann"), twin.book().asked("ann")), ([1], []))

    def test_a_twins_numbers_are_its_own(self):
        yard = up()
        yard.ask("ann")
        twin = yard.twin()
        self.assertEqual([twin.ask("ann"), twin.ask("ann")], [2, 3])
        yard.answer("ann")
        twin.answer("ann")
        self.same((yard.on_way()[0][0][2], twin.on_way()[0][0][2]), (1, 3))

    def test_what_is_done_to_a_told_book_or_machine_changes_nothing(self):
        yard = with_packets(2)
        before = all_of_yard(yard)
        book, machine = yard.book(), yard.machine("ann")
        book.take(*yard.on_way()[0])
        book.drop("ann")
        book.tick(many=20)
        machine.late(1, "net", 5)
        machine.start()
        self.same(all_of_yard(yard), before)

    def test_two_yards_that_share_hands_mixings_and_lists(self):
        hands, policy, mixing = list(HANDS), [("most", "bad", 0)], Mixing(101)
        yards = [Yard(), Yard()]
        for yard in yards:
            yard.build("ann", 5, hands, mixing=mixing, policy=policy)
        hands.pop()
        policy.append(("must", "zz"))
        for yard in yards:
            yard.start("ann")
        before = all_of_yard(yards[1])
        for _ in HANDS:
            yards[0].step("ann")
        yards[0].ask("ann")
        yards[0].answer("ann")
        self.assertEqual(yards[0].carry(), "good")
        self.same(all_of_yard(yards[1]), before)
        self.same(yards[0].machine("ann").log(), plan_of(HANDS))
        self.same(plan_of(HANDS), plain_plan(HANDS))

    def test_told_lists_are_the_askers_own(self):
        yard = with_packets(3)
        self.own(yard.on_way)
        going = built()
        going.start("ann")
        noted = going.step("ann")
        noted.clear()
        self.assertEqual(len(going.machine("ann").log()), 2)

    def test_hands_handed_in_stay_as_they_were(self):
        hands, policy = [BOOT, KERN], [("must", "kern")]
        kept = copy.deepcopy((hands, policy))
        yard = Yard()
        yard.build("ann", 5, hands, policy=policy)
        yard.start("ann")
        yard.turn("ann", 1, INIT)
        self.same((hands, policy), kept)


class Histories(Checking):
    """Long histories, at the bounds, beside a plain reckoning."""

    def some_deed(self, chance, names, plain):
        deed = chance.choice((
            "build", "start", *["step"] * 6, "late", "late", "reset", "turn", *["ask"] * 3, *["answer"] * 6,
            *["carry"] * 3, "keep", "lose", "swap", "bend", "forge", "tick",
        ))
        # Most names are known ones, most places have a packet.
        is_any = deed == "build" or chance.random() < 0.05
        name = chance.choice(names if is_any or not plain.machines else sorted(plain.machines))
        place = chance.randrange(len(plain.way) + (chance.random() < 0.05) or 1)
        if deed == "build" or not plain.machines:
            deed = "build"
            hands = chance.choice((HANDS, HANDS, [KERN], (BOOT, LIAR, INIT), [LIAR], []))
            return deed, (name, 5, hands), {
                "mixing": some_mixing(chance), "many": chance.choice((4, 4, 5, 8)), "fixed": chance.choice((0, 2, 4)),
                "policy": some_policy(chance, most=1, names=("boot", "kern", "net", "zz")),
            }
        more = {
            "late": lambda: (chance.randrange(5), "net", chance.randrange(9)),
            "reset": lambda: (chance.randrange(5), "net"),
            "turn": lambda: (chance.randrange(4), chance.choice((KERN, LIAR, INIT, Hand("kern", 23)))),
        }
        if deed in ("start", "step", "late", "reset", "turn", "ask", "answer"):
            return deed, (name, *more.get(deed, tuple)()), {}
        if deed == "tick":
            return deed, (), {}
        more = {"swap": lambda: (chance.randrange(len(plain.way) or 1),), "forge": lambda: (chance.choice((5, 5, 6)),)}
        if deed == "bend":
            return deed, (place, self.some_step(chance, plain, place)), {}
        return deed, (place, *more.get(deed, tuple)()), {}

    def some_step(self, chance, plain, place):
        many = len(plain.way[place][1]) if place < len(plain.way) else 3
        at = chance.randrange(many + 2)
        return chance.choice((
            ("out", at), ("put", at, ROW), ("turn", at, ROW), ("move", at, chance.randrange(many + 2)), ("out",), None,
        ))

    def run_history(self, chance, deeds):
        life = chance.choice((1, 3, 9, 50))
        yard, plain, words = Yard(life=life), PlainYard(life), collections.Counter()
        names = NAMES[:chance.choice((2, 4, 10))]
        for _ in range(deeds):
            deed, places, by_names = self.some_deed(chance, names, plain)
            came = outcome(getattr(yard, deed), *places, **by_names)
            self.same(came, outcome(getattr(plain, deed), *places, **by_names))
            words[came[1] if came[0] == "told" and deed in ("carry", "keep") else came[0] if came[0] != "told" else deed] += 1
            if chance.random() < 0.05:
                yard = yard.twin()
            if chance.random() < 0.1:
                self.same(all_of_yard(yard), plain.all())
        self.same(all_of_yard(yard), plain.all())
        return words

    def test_beside_a_plain_reckoning(self):
        words = collections.Counter()
        for seed, chance in seeded(250):
            with self.subTest(seed):
                words += self.run_history(chance, 120)
        for word in ("sign", "number", "boards", "plan", "policy", "good", "cut", "back", "Unknown", "Known", "BadMachine",
                     "NotYet", "NoBoard", "Fixed", "NoNumber", "NoPacket", "BadStep", "build", "start", "step",
                     "late", "reset", "turn", "ask", "answer", "lose", "swap", "bend", "forge", "tick"):
            self.assertGreater(words[word], 2, word)

    def test_four_hundred_deeds(self):
        for seed, chance in seeded(25):
            with self.subTest(seed):
                self.run_history(chance, 400)

    def test_the_same_done_to_two(self):
        for seed, chance in seeded(8):
            two, plain = [Yard(), Yard()], PlainYard()
            for _ in range(100):
                deed, places, by_names = self.some_deed(chance, NAMES[:3], plain)
                self.same(*[outcome(getattr(yard, deed), *places, **by_names) for yard in two])
                outcome(getattr(plain, deed), *places, **by_names)
            self.same(*[all_of_yard(yard) for yard in two])

    def test_a_true_log_leads_to_its_quoted_boards(self):
        """(a) of [1], and (f): what the book takes for good was told so by a machine."""
        for seed, chance in seeded(25):
            yard, plain, truths = Yard(), PlainYard(), []
            for _ in range(150):
                deed, places, by_names = self.some_deed(chance, NAMES[:3], plain)
                by_names.pop("mixing", None)
                quote, log = (plain.way[places[0]] if deed in ("carry", "keep") and places[0] < len(plain.way) else (0, 0))
                came = outcome(getattr(yard, deed), *places, **by_names)
                outcome(getattr(plain, deed), *places, **by_names)
                if deed == "answer" and came[0] == "told":
                    quote, log = yard.on_way()[-1]
                    truths.append((quote[1], quote[3], log))
                    machine = yard.machine(quote[0])
                    values = [value for _, value in quote[3]]
                    self.assertTrue(leads_to(machine.mixing, log, values, many=machine.many, fixed=machine.fixed))
                if came == ("told", "good"):
                    self.assertIn((quote[1], quote[3]), [truth[:2] for truth in truths])


class BookOfAYard(Checking):

    def test_it_is_a_book(self):
        yard = with_packets(2)
        yard.carry()
        book = yard.book()
        self.same(all_of(book)["machines"]["ann"][2], [(1, "good")])
        self.same(book.last("ann"), (1, plan_of(HANDS)))
        self.same((book.log(), book.is_open(), len(book)), ([], True, 1))


if __name__ == "__main__":
    unittest.main()
