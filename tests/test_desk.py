"""A desk: a yard that is worked by a text [24]."""

import collections
import re
import unittest

from startlog.desk import answers
from startlog.errors import BadLine
from startlog.hands import Hand
from startlog.mixing import Mixing
from tests.books import outcome
from tests.policies import seeded
from tests.samples import NAMES, Asking
from tests.yards import PlainYard

NAME = "[a-z]{1,4}"
NUMBER = "(?:0|[1-9][0-9]{0,5}|1000000)"

# What stands behind each word.
FORMS = {
    "build": [NAME, NUMBER, f"(?:-|{NUMBER})", f"{NAME}:{NUMBER}(?:,{NAME}:{NUMBER})*"], "start": [NAME], "step": [NAME],
    "late": [NAME, NUMBER, NAME, NUMBER], "reset": [NAME, NUMBER, NAME], "ask": [NAME], "answer": [NAME],
    "carry": [NUMBER], "keep": [NUMBER], "lose": [NUMBER], "out": [NUMBER, NUMBER], "tick": [], "state": [NAME],
    "history": [NAME], "way": [],
}

STORY = """build ann 5 - boot:1,kern:22
start ann
step ann
step ann
ask ann
answer ann
keep 0
carry 0
late ann 1 net 5
reset ann 3 net
ask ann
answer ann
out 0 1
way
carry 0
history ann
state ann
tick
lose 0"""

TOLD = [
    "done", "done", "1", "1", "1", "done", "good", "number", "done", "done", "2", "done", "done", "1", "boards",
    "1:good 2:boards", "up 1", "done", "refused NoPacket",
]

# A row of each word.
ROWS = [
    "build ann 5 - boot:1,kern:22", "build zzzz 1000000 101 a:0", "build a 0 1000000 b:1000000,c:0", "start ann",
    "step ann", "late ann 3 disk 17", "reset ann 2 fan", "ask ann", "answer ann", "carry 0", "keep 12", "lose 1000000",
    "out 0 3", "tick", "state ann", "history ann", "way",
]


def is_so_written(row):
    """Whether the row is written as [24] tells."""
    return any(re.fullmatch(" ".join([word, *FORMS[word]]), row) for word in FORMS)


class PlainDesk:
    """What a desk answers, by a plain yard."""

    def __init__(self):
        self.yard = PlainYard()

    def told_of(self, row):
        word, *parts = row.split(" ")
        parts = [int(part) if part[0] in "0123456789" else part for part in parts]
        came = outcome(getattr(self, word, None) or getattr(self.yard, word), *parts)
        if came[0] != "told":
            return f"refused {came[0]}"
        if word in ("carry", "keep", "state", "history"):
            return came[1]
        return str(came[1]) if word in ("step", "ask", "way") else "done"

    def build(self, name, key, width, hands):
        made = [Hand(hand, int(body)) for hand, body in [one.split(":") for one in hands.split(",")]]
        mixing = Mixing() if width == "-" else Mixing(width)
        self.yard.build(name, key, made, mixing=mixing)

    def step(self, name):
        return len(self.yard.step(name))

    def out(self, place, row_place):
        self.yard.bend(place, ("out", row_place))

    def state(self, name):
        machine = self.yard.found(name)
        return f"{machine.state()} {machine.starts()}"

    def history(self, name):
        words = self.yard.asker.found(name)["words"]
        return " ".join(f"{number}:{word}" for number, word in words) or "-"

    def way(self):
        return len(self.yard.way)


def plain_answers(text):
    """What a desk answers, or the number of the first row that isn't so written."""
    rows = text.split("\n")
    for k, row in enumerate(rows):
        if row != "" and not is_so_written(row):
            return k
    desk = PlainDesk()
    return [desk.told_of(row) for row in rows if row != ""]


def some_row(chance, names):
    """Any row of these names."""
    word = chance.choice((
        "build", "start", "start", *["step"] * 5, "late", "late", "reset", *["ask"] * 3, *["answer"] * 5, *["carry"] * 4,
        "keep", "lose", "out", "out", "tick", "state", "history", "way",
    ))
    name = chance.choice(names)
    many = chance.choice((1, 2, 3, 3, 7))
    hands = ",".join(f"{chance.choice(NAMES)}:{chance.choice((0, 1, 22, 10 ** 6))}" for _ in range(many))
    place, row_place, board = chance.choice((0, 0, 1, 2)), chance.choice((0, 1, 2, 60)), chance.choice((0, 1, 2, 3, 4))
    return {
        "build": f"build {name} {chance.choice((0, 5))} {chance.choice(('-', '-', '101', '500', '7919', '2'))} {hands}",
        "late": f"late {name} {board} fan {chance.choice((0, 17, 10 ** 6))}", "reset": f"reset {name} {board} fan",
        "carry": f"carry {place}", "keep": f"keep {place}", "lose": f"lose {place}", "out": f"out {place} {row_place}",
        "tick": "tick", "way": "way",
    }.get(word, f"{word} {name}")


class Checking(Asking):

    def check(self, text):
        told = plain_answers(text)
        if isinstance(told, int):
            with self.assertRaises(BadLine, msg=repr(text)) as caught:
                answers(text)
            self.same(caught.exception.what, told)
        else:
            self.same(answers(text), told)
        return told


class ByHand(Checking):

    def test_a_story(self):
        self.same(self.ways(answers, {"text": STORY}), TOLD)
        self.assertEqual(plain_answers(STORY), TOLD)

    def test_nothing(self):
        for text in ("", "\n", "\n\n\n"):
            self.same(self.ways(answers, {"text": text}), [])

    def test_a_new_yard_each_time(self):
        self.same(answers("build ann 5 - a:1"), ["done"])
        self.same(answers("state ann"), ["refused Unknown"])

    def test_empty_rows_are_passed_over(self):
        rows = STORY.split("\n")
        for text in ("\n" + STORY, STORY + "\n", STORY.replace("\n", "\n\n"), "\n\n" + "\n\n\n".join(rows) + "\n\n"):
            self.same(answers(text), TOLD)

    def test_each_row_by_itself(self):
        told = {"build": "done", "tick": "done", "way": "0", "carry": "refused NoPacket", "keep": "refused NoPacket",
                "lose": "refused NoPacket", "out": "refused NoPacket"}
        for row in ROWS:
            self.same(answers(row), [told.get(row.split()[0], "refused Unknown")])

    def test_state(self):
        rows = ["build ann 5 - a:1,b:2", "start ann", "step ann", "step ann", "start ann"]
        text = "".join(f"{row}\nstate ann\n" for row in rows)
        self.same(answers(text), ["done", "off 0", "done", "going 1", "1", "going 1", "1", "up 1", "done", "going 2"])

    def test_history(self):
        rows = ["build ann 5 - a:1", "start ann", "ask ann", "answer ann", "keep 0", "keep 0"]
        told = answers("".join(f"{row}\nhistory ann\n" for row in rows))
        self.same(told[::2], ["done", "done", "1", "done", "good", "number"])
        self.same(told[1::2], ["-", "-", "-", "-", "1:good", "1:good"])

    def test_refusals(self):
        up = "build ann 5 - a:1\nstart ann\nstep ann\n"
        for text, word in (
            ("build ann 5 - a:1\nbuild ann 5 - a:1", "Known"), ("build ann 5 2 a:1", "BadMixing"),
            ("build ann 5 0 a:1", "BadMixing"), ("build ann 5 7919 a:1", "BadMixing"), ("build ann 5 15838 a:1", "BadMixing"),
            ("build ann 5 - a:1,b:1,c:1,d:1,e:1,f:1,g:1", "BadMachine"), ("start ann", "Unknown"), ("step ann", "Unknown"),
            ("late ann 0 a 1", "Unknown"), ("reset ann 0 a", "Unknown"), ("ask ann", "Unknown"), ("answer ann", "Unknown"),
            ("state ann", "Unknown"), ("history ann", "Unknown"), ("build ann 5 - a:1\nstep ann", "NotYet"),
            ("build ann 5 - a:1\nanswer ann", "NotYet"), ("build ann 5 - a:1\nask ann\nanswer ann", "NotYet"),
            ("build ann 5 - a:1\nlate ann 9 a 1", "NotYet"), ("build ann 5 - a:1\nreset ann 9 a", "NotYet"),
            ("build ann 5 - a:1\nstart ann\nanswer ann", "NoNumber"), (up + "step ann", "NotYet"),
            (up + "late ann 4 a 1", "NoBoard"), (up + "late ann 1000000 a 1", "NoBoard"), (up + "reset ann 4 a", "NoBoard"),
            (up + "reset ann 1 a", "Fixed"), ("carry 0", "NoPacket"), ("keep 0", "NoPacket"), ("lose 0", "NoPacket"),
            ("out 0 0", "NoPacket"), (up + "ask ann\nanswer ann\nout 0 1", "BadStep"),
            (up + "ask ann\nanswer ann\ncarry 1", "NoPacket"), (up + "ask ann\nanswer ann\nout 1 0", "NoPacket"),
        ):
            self.same(answers(text)[-1], f"refused {word}")
            self.assertNotIn("refused", " ".join(answers(text)[:-1]))
            self.check(text)

    def test_too_many(self):
        rows = [f"build {name} 5 - a:1" for name in NAMES[:9]]
        self.same(answers("\n".join(rows)), ["done"] * 8 + ["refused TooMany"])

    def test_of_build_hands_and_mixing_are_made_first(self):
        seven = "a:1,b:1,c:1,d:1,e:1,f:1,g:1"
        first = "build ann 5 - a:1\n"
        self.same(answers(f"build ann 5 2 {seven}"), ["refused BadMixing"])
        self.same(answers(first + "build ann 5 2 a:1"), ["done", "refused BadMixing"])
        self.same(answers(first + f"build ann 5 - {seven}"), ["done", "refused BadMachine"])
        eight = "".join(f"build {name} 5 - a:1\n" for name in NAMES[:8])
        self.same(answers(eight + "build ann 5 2 a:1")[-1], "refused BadMixing")
        self.same(answers(eight + f"build ann 5 - {seven}")[-1], "refused BadMachine")
        self.same(answers(eight + f"build {NAMES[0]} 5 - a:1")[-1], "refused Known")

    def test_a_refused_row_changes_nothing(self):
        rows = STORY.split("\n")
        for place in range(len(rows) + 1):
            for row in ("start bob", "build ann 5 2 a:1", "build bob 5 - a:1,b:1,c:1,d:1,e:1,f:1,g:1", "carry 60", "out 60 0",
                        "lose 60", "reset ann 1000000 fan"):
                told = answers("\n".join([*rows[:place], row, *rows[place:]]))
                self.assertTrue(told.pop(place).startswith("refused "))
                self.same(told, TOLD)

    def test_mixings(self):
        for width in ("-", "3", "101", "500", "999999", "1000000"):
            self.same(answers(STORY.replace(" - ", f" {width} "))[:7], TOLD[:7])

    def test_a_packet_is_bent(self):
        text = "build ann 5 - a:1,b:2\nstart ann\nstep ann\nstep ann\nask ann\nanswer ann\nout 0 1\nout 0 0\nout 0 0\ncarry 0"
        self.same(answers(text)[-4:], ["done", "done", "refused BadStep", "boards"])

    def test_numbers_lapse(self):
        for ticks in range(11):
            text = "build ann 5 - a:1\nstart ann\nask ann\nanswer ann\n" + "tick\n" * ticks + "carry 0\nhistory ann"
            self.same(answers(text)[-2:], ["good", "1:good"] if ticks < 9 else ["number", "-"])

    def test_told_lists_are_the_askers_own(self):
        self.own(answers, STORY)
        self.own(answers, "")


class NotSoWritten(Checking):

    def test_each_row_at_fault(self):
        for row in (
            " ", "  ", "-", "build", "build ann", "build ann 5", "build ann 5 -", "build ann 5 - ", "build ann 5 - a",
            "build ann 5 - a:", "build ann 5 - :1", "build ann 5 - a:1,", "build ann 5 - ,a:1", "build ann 5 - a:1,,b:2",
            "build ann 5 - a:1 b:2", "build ann 5 - a:01", "build ann 5 - A:1", "build ann 5 - abcde:1",
            "build ann 5 - a:1000001", "build ann 5 - a:1:2", "build ann 5 - a:1;b:2", "build ann 5 - -",
            "build ann 5 -- a:1", "build ann 5 -3 a:1", "build ann 5 03 a:1", "build ann 5 1000001 a:1",
            "build ann 1000001 - a:1", "build ann -1 - a:1", "build ann 05 - a:1", "build ann - - a:1", "build Ann 5 - a:1",
            "build 5 ann - a:1", "build abcde 5 - a:1", "build ann 5 - a:1 ", " build ann 5 - a:1", "build  ann 5 - a:1",
            "build ann 5 - a:1,b: 2", "Build ann 5 - a:1", "start", "start ", "start  ann", "start ann ", "start ann bob",
            "start Ann", "start 5", "start -", "starts ann", "step", "step ann ann", "late ann 1 net", "late ann 1 net 5 5",
            "late ann net 1 5", "late ann 1 net -5", "late ann 1 net 1000001", "late ann 1000001 net 5", "late ann 01 net 5",
            "late ann 1 Net 5", "late ann - net 5", "reset ann 1", "reset ann 1 net 5", "reset ann net", "reset ann 1 5",
            "reset ann 00 net", "ask", "ask 5", "ask ann 5", "answer", "answer 0", "answer ann ann", "carry", "carry ann",
            "carry -1", "carry 00", "carry 0 0", "carry 1000001", "carry 0x1", "carry +1", "carry 1.0", "carry 1_0", "keep",
            "keep ", "keep a", "lose", "lose -", "lose 0 1", "out", "out 0", "out 0 0 0", "out a 0", "out 0 a", "out 0  0",
            "out 0 01", "tick ", " tick", "tick 1", "ticks", "tic", "Tick", "state", "state ann 1", "history", "history 1",
            "way 0", "way ", "ways", "turn ann 0 a:1", "swap 0 0", "forge 0 5", "bend 0 0", "twin", "len", "carry " + "9" * 290,
        ):
            self.assertFalse(is_so_written(row), row)
            self.refused_all_ways(BadLine, 0, answers, {"text": row})
            for k in (1, 2, 5):
                self.refused(BadLine, k, answers, "\n".join([*ROWS[:k], row, *ROWS]))
                self.refused(BadLine, k, answers, "\n" * k + row)
            self.refused(BadLine, len(ROWS), answers, "\n".join([*ROWS, row]))

    def test_so_written(self):
        for row in ROWS:
            self.assertTrue(is_so_written(row), row)
            self.check(row)

    def test_the_first_of_several_all_rows_counted(self):
        self.refused(BadLine, 2, answers, "tick\n\nno\nno")
        self.refused(BadLine, 3, answers, "\n\n\n \n\n ")
        self.refused(BadLine, 0, answers, "no\n" * 130)
        self.refused(BadLine, 119, answers, "tick\n" * 119 + "tock")

    def test_one_sign_otherwise(self):
        signs = " ,-:\n019azT"
        for row in ROWS:
            for place in range(len(row) + 1):
                self.check(row[:place] + row[place + 1:])
                for sign in signs:
                    self.check(row[:place] + sign + row[place:])
                    self.check(row[:place] + sign + row[place + 1:])

    def test_one_sign_otherwise_of_any_sign(self):
        for row in ("build ann 5 - boot:1,b:2", "late ann 3 d 17", "tick"):
            for place in range(len(row) + 1):
                for code in [10, *range(32, 37), *range(38, 127)]:
                    self.check(row[:place] + chr(code) + row[place:])
                    self.check(row[:place] + chr(code) + row[place + 1:])

    def test_words_exchanged(self):
        for row in ROWS:
            for other in ROWS:
                self.check(" ".join([row.split()[0], *other.split()[1:]]))
                self.check(" ".join([*row.split()[:-1], other.split()[-1]]))

    def test_numbers_at_their_ends(self):
        for number in ("0", "1", "9", "10", "999999", "1000000"):
            self.check(f"build ann {number} - a:{number}\ncarry {number}\nlate ann {number} a {number}\nout {number} {number}")
        for number in ("1000001", "9999999", "10000000", "1" + "0" * 60, "00", "01", "", "1 ", "1e3", "0b1"):
            for row in (f"build ann {number} - a:1", f"build ann 1 {number} a:1", f"build ann 1 - a:{number}",
                        f"carry {number}", f"late ann {number} a 1", f"late ann 1 a {number}", f"out 0 {number}"):
                self.refused(BadLine, 0, answers, row)


class Texts(Checking):

    def some_text(self, chance, rows):
        names = NAMES[:chance.choice((1, 2, 10))]
        first = [f"build {name} 5 - boot:1,kern:22" for name in names[:3]] + [f"start {name}" for name in names[:3]]
        text = first + [some_row(chance, names) for _ in range(rows - len(first))]
        return "\n".join(row if chance.random() < 0.95 else row + "\n" for row in text)

    def test_beside_a_plain_reckoning(self):
        words = collections.Counter()
        for seed, chance in seeded(200):
            with self.subTest(seed):
                words.update(self.check(self.some_text(chance, 80)))
        for word in ("done", "good", "number", "boards", "cut", "back", "refused Unknown", "refused Known", "refused BadMixing",
                     "refused BadMachine", "refused NotYet", "refused NoBoard", "refused Fixed", "refused NoNumber",
                     "refused NoPacket", "refused BadStep", "up 1", "going 1", "-"):
            self.assertGreater(words[word], 2, word)

    def test_a_hundred_and_twenty_rows_and_more(self):
        for seed, chance in seeded(20):
            self.check(self.some_text(chance, 120))
        for seed, chance in seeded(3):
            self.check(self.some_text(chance, 200))

    def test_rows_of_three_hundred_signs(self):
        row = "build ann 5 - " + ",".join(["kern:1000000"] * 22)
        self.assertEqual(len(row), 299)
        self.same(answers(row), ["refused BadMachine"])
        self.refused(BadLine, 0, answers, row + ",")
        self.refused(BadLine, 0, answers, "tick" + " " * 296)

    def test_one_row_not_so_written(self):
        for seed, chance in seeded(60):
            rows = self.some_text(chance, 20).split("\n")
            place = chance.randrange(len(rows))
            for other in (rows[place] + " ", "no", rows[place] + " 0", " "):
                self.check("\n".join([*rows[:place], other, *rows[place + 1:]]))

    def test_beginnings_are_answered_as_the_whole(self):
        for text in (STORY, *[self.some_text(chance, 40) for _, chance in seeded(10)]):
            rows, whole = text.split("\n"), answers(text)
            for many in range(len(rows) + 1):
                begun = answers("\n".join(rows[:many]))
                self.same(begun, whole[:len(begun)])
                self.assertEqual(len(begun), len([row for row in rows[:many] if row != ""]))


if __name__ == "__main__":
    unittest.main()
