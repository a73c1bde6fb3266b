"""A desk: a yard that is worked by a text."""

from startlog.errors import (
    BadLine, BadMachine, BadMixing, BadStep, Fixed, Known, NoBoard, NoNumber, NoPacket, NotYet, TooMany, Unknown,
)
from startlog.figures import number_in
from startlog.hands import Hand
from startlog.mixing import Mixing
from startlog.names import is_name
from startlog.texts import NOTHING
from startlog.yard import Yard

GREATEST_NUMBER = 10 ** 6

DONE = "done"

# By words: what stands behind them.
FORMS = {
    "build": ("name", "number", "width", "hands"),
    "start": ("name",),
    "step": ("name",),
    "late": ("name", "number", "name", "number"),
    "reset": ("name", "number", "name"),
    "ask": ("name",),
    "answer": ("name",),
    "carry": ("number",),
    "keep": ("number",),
    "lose": ("number",),
    "out": ("number", "number"),
    "tick": (),
    "state": ("name",),
    "history": ("name",),
    "way": (),
}


def small_number_in(word):
    """The number whose figures these are, None where it's none's, or too great a one's."""
    number = number_in(word)
    return None if number is None or number > GREATEST_NUMBER else number


def hands_in(word):
    """The tuple of (name, body) whose word this is, None where it's none's."""
    hands = []
    for part in word.split(","):
        name, colon, figures = part.partition(":")
        body = small_number_in(figures)
        if not is_name(name) or body is None:
            return None
        hands.append((name, body))
    return tuple(hands)


def part_in(kind, word):
    """What this word stands for, None where it isn't so written."""
    if kind == "name":
        return word if is_name(word) else None
    if kind == "hands":
        return hands_in(word)
    if kind == "width" and word == NOTHING:
        return NOTHING
    return small_number_in(word)


def order_in(row):
    """The list of a row's word and what is behind it, None where it isn't so written."""
    words = row.split(" ")
    if words[0] not in FORMS or len(words) != 1 + len(FORMS[words[0]]):
        return None
    parts = [part_in(kind, word) for kind, word in zip(FORMS[words[0]], words[1:])]
    return None if None in parts else [words[0], *parts]


def orders_in(text):
    """The orders of all rows that have a sign; BadLine of the first that isn't so written."""
    orders = []
    for k, row in enumerate(text.split("\n")):
        if row != "":
            order = order_in(row)
            if order is None:
                raise BadLine(k)
            orders.append(order)
    return orders


def build(yard, name, key, width, hands):
    """Hands and mixing are made first."""
    made = [Hand(hand, body) for hand, body in hands]
    mixing = Mixing(None if width == NOTHING else width)
    yard.build(name, key, made, mixing=mixing)
    return DONE


def start(yard, name):
    """The machine is started."""
    yard.start(name)
    return DONE


def step(yard, name):
    """How many rows the hand at work noted."""
    return str(len(yard.step(name)))


def late(yard, name, board, row_name, body):
    """A late row more."""
    yard.late(name, board, row_name, body)
    return DONE


def reset(yard, name, board, row_name):
    """A board begins anew."""
    yard.reset(name, board, row_name)
    return DONE


def ask(yard, name):
    """The number."""
    return str(yard.ask(name))


def answer(yard, name):
    """A packet goes on the way."""
    yard.answer(name)
    return DONE


def carry(yard, place):
    """The book's word."""
    return yard.carry(place)


def keep(yard, place):
    """The book's word."""
    return yard.keep(place)


def lose(yard, place):
    """A packet is on the way no more."""
    yard.lose(place)
    return DONE


def leave_out(yard, place, row_place):
    """A row of a packet's log is left out."""
    yard.bend(place, ("out", row_place))
    return DONE


def tick(yard):
    """A tick goes by."""
    yard.tick()
    return DONE


def state(yard, name):
    """The machine's state and starts."""
    machine = yard.machine(name)
    return f"{machine.state()} {machine.starts()}"


def history(yard, name):
    """The numbers and words of the book's history."""
    told = [f"{number}:{word}" for number, word in yard.book().history(name)]
    return " ".join(told) if told else NOTHING


def way(yard):
    """How many packets are on the way."""
    return str(len(yard))


ACTIONS = {
    "build": build, "start": start, "step": step, "late": late, "reset": reset, "ask": ask, "answer": answer,
    "carry": carry, "keep": keep, "lose": lose, "out": leave_out, "tick": tick, "state": state, "history": history,
    "way": way,
}


def answer_of(yard, word, parts):
    """What is told of this order, or by which class it's refused."""
    action = ACTIONS[word]
    try:
        return action(yard, *parts)
    except BadMixing:
        return "refused BadMixing"
    except BadMachine:
        return "refused BadMachine"
    except Known:
        return "refused Known"
    except TooMany:
        return "refused TooMany"
    except Unknown:
        return "refused Unknown"
    except NotYet:
        return "refused NotYet"
    except NoBoard:
        return "refused NoBoard"
    except Fixed:
        return "refused Fixed"
    except NoNumber:
        return "refused NoNumber"
    except NoPacket:
        return "refused NoPacket"
    except BadStep:
        return "refused BadStep"


def answers(text):
    """The list of what each row of the text is answered, by a new yard."""
    orders = orders_in(text)
    yard = Yard()
    return [answer_of(yard, order[0], order[1:]) for order in orders]
