"""A plain reckoning of a yard, for several tests."""

from startlog.machines import Machine
from tests.books import PlainBook, Refusal, all_of, plain_is_row, plain_sign
from tests.test_mends import plain_steps


def plain_plan(hands):
    """The rows of a start of these hands, without their lies, as [12] and [13] tell it."""
    rows = []
    for hand, after in zip(hands, [*hands[1:], None]):
        rows += [(board, "set", name, (body * 48271 + 11) % 9973) for board, name, body in hand.loads]
        rows.append((0, "end", hand.name, 0) if after is None else (0, "load", after.name, (after.body * 48271 + 11) % 9973))
    return rows


class PlainYard:
    """What a yard is told to do, as [23] tells it; machines are as in [13]."""

    def __init__(self, life=9):
        self.asker = PlainBook(life)
        self.machines, self.numbers, self.way = {}, {}, []

    def found(self, name):
        if name not in self.machines:
            raise Refusal("Unknown", name)
        return self.machines[name]

    def at(self, place):
        if type(place) is not int or place not in range(len(self.way)):
            raise Refusal("NoPacket", place)
        return self.way[place]

    def build(self, name, key, hands, *, mixing=None, policy=(), many=4, fixed=2):
        machine = Machine(name, key, hands, mixing=mixing, many=many, fixed=fixed)
        self.asker.know(name, key, mixing=mixing, policy=policy, plan=plain_plan(hands), many=many, fixed=fixed)
        self.machines[name] = machine

    def start(self, name):
        return self.found(name).start()

    def step(self, name):
        return self.found(name).step()

    def late(self, name, board, row_name, body):
        return self.found(name).late(board, row_name, body)

    def reset(self, name, board, row_name):
        return self.found(name).reset(board, row_name)

    def turn(self, name, place, hand):
        return self.found(name).turn(place, hand)

    def ask(self, name):
        self.numbers[name] = self.asker.ask(name)
        return self.numbers[name]

    def answer(self, name):
        machine = self.found(name)
        if machine.state() == "off":
            raise Refusal("NotYet", "off")
        if name not in self.numbers:
            raise Refusal("NoNumber", name)
        quote = (name, machine.starts(), self.numbers[name], tuple(enumerate(machine.boards())), 0)
        self.way.append([(*quote[:4], plain_sign(machine.key, quote)), machine.log()])

    def carry(self, place=0):
        quote, log = self.at(place)
        self.way = self.way[:place] + self.way[place + 1:]
        return self.asker.take(quote, log)

    def keep(self, place=0):
        return self.asker.take(*self.at(place))

    def lose(self, place=0):
        self.at(place)
        self.way = self.way[:place] + self.way[place + 1:]

    def swap(self, place, other):
        one, two = self.at(place), self.at(other)
        one[1], two[1] = two[1], one[1]

    def bend(self, place, step):
        packet = self.at(place)
        some = [step[2]] if isinstance(step, tuple) and len(step) == 3 and plain_is_row(step[2]) else []
        for one, behind in plain_steps(packet[1], some):
            if repr(one) == repr(step):
                packet[1] = behind
                return
        raise Refusal("BadStep", step)

    def forge(self, place, key):
        packet = self.at(place)
        name, start, number, values, _ = packet[0]
        quote = (name, start, number + 1, values, 0)
        packet[0] = (*quote[:4], plain_sign(key, quote))

    def tick(self):
        self.asker.tick()

    def all(self):
        """All that is asked of a yard."""
        return {
            "len": len(self.way), "way": [(quote, list(log)) for quote, log in self.way], "book": self.asker.all(),
            "machines": {name: all_of_machine(self.machines[name]) for name in sorted(self.machines)},
        }


def all_of_machine(machine):
    """All that is asked of a machine."""
    return (machine.state(), machine.starts(), machine.log(), machine.boards(), machine.quote(7))


def all_of_yard(yard):
    """All that is asked of a yard."""
    book = yard.book()
    return {
        "len": len(yard), "way": yard.on_way(), "book": all_of(book),
        "machines": {name: all_of_machine(yard.machine(name)) for name in book.names()},
    }
