"""A plain reckoning of an asker's book, and machines that are asked, for several tests."""

import re

from startlog.errors import StartError
from startlog.hands import Hand
from startlog.machines import Machine
from startlog.mixing import Mixing
from startlog.quotes import quote_of
from tests.policies import plain_fits
from tests.samples import WORDS, plain_boards
from tests.test_mends import stands

BOOT = Hand("boot", 1, loads=[(2, "fan", 17)])
KERN = Hand("kern", 22)
INIT = Hand("init", 0, loads=[(0, "net", 5), (3, "disk", 9)])
LIAR = Hand("kern", 22, lies=[(0, "good", 8)])

HANDS = [BOOT, KERN, INIT]


class Refusal(Exception):
    """What the plain reckoning refuses: the class's name, and what it's told with."""


def outcome(asked, *places, **names):
    """What is told, or by which class it's refused, with what."""
    try:
        return ("told", asked(*places, **names))
    except StartError as error:
        return (type(error).__name__, error.what)
    except Refusal as error:
        return error.args


def is_plain_number(thing):
    return type(thing) is int and thing >= 0


def plain_is_row(thing):
    if type(thing) is not tuple or len(thing) != 4:
        return False
    board, word, name, note = thing
    if not is_plain_number(board) or board > 7 or word not in WORDS or type(name) is not str:
        return False
    is_note = is_plain_number(note) and note < 9973
    return re.fullmatch("[a-z]{1,4}", name) is not None and is_note and (note == 0 or word not in ("end", "reset"))


def plain_is_quote(thing):
    if type(thing) is not tuple or len(thing) != 5:
        return False
    name, start, number, values, sign = thing
    if type(name) is not str or not re.fullmatch("[a-z]{1,4}", name) or type(values) is not tuple:
        return False
    if not all(is_plain_number(one) for one in (start, number, sign)) or sign >= 1000000000039:
        return False
    for pair in values:
        if type(pair) is not tuple or len(pair) != 2 or not all(is_plain_number(one) for one in pair):
            return False
    boards = [board for board, _ in values]
    return boards == sorted(set(boards)) and all(board < 8 for board in boards)


def plain_sign(key, quote):
    """The quote's sign by this key, as [14] and [15] tell it."""
    name, start, number, values, _ = quote
    as_number = 0
    for letter in name:
        as_number = as_number * 27 + "-abcdefghijklmnopqrstuvwxyz".index(letter)
    sign = key
    for one in [as_number, start, number, *[one for pair in values for one in pair]]:
        sign = (sign * 1000003 + one + 1) % 1000000000039
    return sign


class PlainBook:
    """What a book is told to do, kept as a list of all asks, as [21] and [22] tell it."""

    def __init__(self, life=9, most=8):
        self.life, self.most, self.now = life, most, 0
        self.machines = {}
        # Of each number: the machine, the tick, whether no quote was taken of it.
        self.asks = []
        self.noted = []

    def found(self, name):
        if name not in self.machines:
            raise Refusal("Unknown", name)
        return self.machines[name]

    def know(self, name, key, *, mixing=None, policy=(), plan=(), many=4, fixed=2):
        if name in self.machines:
            raise Refusal("Known", name)
        if len(self.machines) + 1 > self.most:
            raise Refusal("TooMany", self.most)
        width, factor = (None, 7919) if mixing is None else (mixing.width, mixing.factor)
        self.machines[name] = {
            "key": key, "mixing": (width, factor), "policy": list(policy), "plan": list(plan), "many": many,
            "fixed": fixed, "goods": [], "words": [],
        }

    def put(self, name, *, policy=None, plan=None):
        more = {"policy": policy, "plan": plan}
        self.found(name).update({word: list(more[word]) for word in more if more[word] is not None})

    def drop(self, name):
        self.found(name)
        del self.machines[name]

    def ask(self, name):
        self.asks.append([self.found(name), self.now, True])
        return len(self.asks)

    def tick(self, *, many=1):
        self.now += many

    def is_asked(self, machine, number):
        if not 1 <= number <= len(self.asks):
            return False
        asked, tick, is_left = self.asks[number - 1]
        return asked is machine and self.now < tick + self.life and is_left

    def take(self, quote, log):
        if not plain_is_quote(quote) or type(log) not in (list, tuple) or not all(plain_is_row(row) for row in log):
            return "form"
        if quote[0] not in self.machines:
            return "strange"
        machine = self.machines[quote[0]]
        if plain_sign(machine["key"], quote) != quote[4]:
            return "sign"
        if not self.is_asked(machine, quote[2]):
            return "number"
        self.asks[quote[2] - 1][2] = False
        word = self.word_of(machine, quote, list(log))
        machine["words"].append((quote[2], word))
        if word == "good":
            machine["goods"].append((quote[1], list(log)))
        return word

    def word_of(self, machine, quote, log):
        starts = [start for start, _ in machine["goods"]]
        values = dict(quote[3])
        if starts and quote[1] < max(starts):
            return "back"
        if sorted(values) != list(range(machine["many"])):
            return "few"
        if not stands(log, machine["many"], machine["fixed"]):
            return "boards"
        boards = plain_boards(*machine["mixing"], log, machine["many"])
        if boards != [values[board] for board in range(machine["many"])]:
            return "boards"
        if any(start == quote[1] and log[:len(good)] != good for start, good in machine["goods"]):
            return "cut"
        if any(one != other for one, other in zip(machine["plan"], log)):
            return "plan"
        return "good" if plain_fits(machine["policy"], log) else "policy"

    def asked(self, name):
        machine = self.found(name)
        return [number for number in range(1, len(self.asks) + 1) if self.is_asked(machine, number)]

    def do(self, deeds):
        self.noted.append(("in", len(deeds)))
        told = []
        for word, *things in deeds:
            asked = getattr(self, word)
            came = outcome(asked, *things) if word != "tick" else outcome(asked, many=things[0])
            if came[0] != "told":
                self.noted.append(("out", len(told)))
                raise Refusal(*came)
            told.append(came[1])
            self.noted.append(word)
        self.noted.append(("out", len(told)))
        return told

    def all(self):
        """All that is asked of a book."""
        return {
            "len": len(self.machines), "names": sorted(self.machines), "log": list(self.noted), "is_open": True,
            "machines": {
                name: (self.asked(name), [None, *self.machines[name]["goods"]][-1], self.machines[name]["words"])
                for name in sorted(self.machines)
            },
        }


def all_of(book):
    """All that is asked of a book."""
    return {
        "len": len(book), "names": book.names(), "log": book.log(), "is_open": book.is_open(),
        "machines": {name: (book.asked(name), book.last(name), book.history(name)) for name in book.names()},
    }


def machine_at(starts=1, late=0, *, key=5, name="ann", hands=HANDS, **names):
    """A machine that is up behind so many starts, with so many late rows."""
    machine = Machine(name, key, hands, **names)
    for _ in range(starts):
        machine.start()
        while machine.state() == "going":
            machine.step()
    for k in range(late):
        machine.late(1, "disk", k)
    return machine


def some_book(chance):
    """(life, most) of a book."""
    return chance.choice((1, 2, 9, 99)), chance.choice((0, 1, 3, 8, 8, 8))


def some_mixing(chance):
    return chance.choice((None, Mixing(), Mixing(101, factor=7), Mixing(10 ** 6, factor=999999)))


def altered(chance, quote, log):
    """The quote and the log, with something in them otherwise."""
    name, start, number, values, sign = quote
    log = list(log)
    place = chance.randrange(len(log) + 1)
    return chance.choice((
        lambda: (quote, log[:place]),
        lambda: (quote, log[:place] + log[place + 1:]),
        lambda: (quote, [*log[:place], (1, "late", "fan", 5), *log[place:]]),
        lambda: (quote, [*log[:place], (1, "late", "fan"), *log[place:]]),
        lambda: (quote, None),
        lambda: (list(quote), log),
        lambda: ((name, start, number, values), log),
        lambda: (("bob", start, number, values, sign), log),
        lambda: ((name, start, number + 1, values, sign), log),
        lambda: (quote_of(6, name, start, number, values), log),
        lambda: (quote_of(5, name, start, number + 1, values), log),
        lambda: (quote_of(5, name, max(0, start - 1), number, values), log),
        lambda: (quote_of(5, name, start, number, values[1:]), log),
        lambda: (quote_of(5, name, start, number, (*values, (7, 1))), log),
        lambda: (quote_of(5, name, start, number, tuple((board, value + 1) for board, value in values)), log),
    ))()
