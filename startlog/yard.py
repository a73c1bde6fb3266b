"""A yard of machines, their asker's book, and a runner between them."""

from startlog.book import Book
from startlog.errors import NoNumber, NoPacket, NotYet, Unknown
from startlog.machines import Machine, plan_of
from startlog.mends import mended
from startlog.quotes import quote_of
from startlog.whole import is_within
from startlog.words import BOARDS, FIXED, LIFE


class Yard:
    """Machines, a book, and packets (quote, log) on the way to it."""

    def __init__(self, *, life=LIFE):
        self.life = life
        self.asker = Book(life=life)
        self.machines = {}
        # By names: the last number that was asked.
        self.last_asked = {}
        # Pairs (quote, tuple of rows).
        self.way = []

    def built(self, name):
        """The machine of this name; Unknown where there is none."""
        if name not in self.machines:
            raise Unknown(name)
        return self.machines[name]

    def packet(self, place):
        """The packet at this place; NoPacket where there is none."""
        if not is_within(place, 0, len(self.way) - 1):
            raise NoPacket(place)
        return self.way[place]

    def build(self, name, key, hands, *, mixing=None, policy=(), many=BOARDS, fixed=FIXED):
        """A machine more, known to the book with the plan of its hands."""
        machine = Machine(name, key, hands, mixing=mixing, many=many, fixed=fixed)
        plan = plan_of(hands)
        self.asker.know(name, key, mixing=mixing, policy=policy, plan=plan, many=many, fixed=fixed)
        self.machines[name] = machine

    def start(self, name):
        """The machine is started."""
        self.built(name).start()

    def step(self, name):
        """The hand at work notes its rows, which are told."""
        return self.built(name).step()

    def late(self, name, board, row_name, body):
        """A late row more of this machine, which is told."""
        return self.built(name).late(board, row_name, body)

    def reset(self, name, board, row_name):
        """A board of this machine begins anew; the row is told."""
        return self.built(name).reset(board, row_name)

    def turn(self, name, place, hand):
        """Another hand of this machine stands there from its next start on."""
        self.built(name).turn(place, hand)

    def ask(self, name):
        """The book's number, which the machine keeps."""
        number = self.asker.ask(name)
        self.last_asked[name] = number
        return number

    def answer(self, name):
        """The machine's quote of its last number, and its log, go on the way."""
        machine = self.built(name)
        if machine.state() == "off":
            raise NotYet("off")
        if name not in self.last_asked:
            raise NoNumber(name)
        self.way.append((machine.quote(self.last_asked[name]), tuple(machine.log())))

    def keep(self, place=0):
        """The book takes a packet, which stays on the way; its word is told."""
        quote, rows = self.packet(place)
        return self.asker.take(quote, rows)

    def carry(self, place=0):
        """The book takes a packet off the way; its word is told."""
        word = self.keep(place)
        self.lose(place)
        return word

    def lose(self, place=0):
        """A packet is on the way no more."""
        self.packet(place)
        del self.way[place]

    def swap(self, place, other):
        """Two packets exchange their logs."""
        quote, rows = self.packet(place)
        other_quote, other_rows = self.packet(other)
        self.way[place] = (quote, other_rows)
        self.way[other] = (other_quote, rows)

    def bend(self, place, step):
        """A packet's log is altered by a step."""
        quote, rows = self.packet(place)
        self.way[place] = (quote, tuple(mended(rows, step)))

    def forge(self, place, key):
        """A packet's quote has a number one more, and is signed so by this key."""
        (name, start, number, values, sign), rows = self.packet(place)
        self.way[place] = (quote_of(key, name, start, number + 1, values), rows)

    def tick(self):
        """A tick goes by."""
        self.asker.tick()

    def book(self):
        """A twin of the book."""
        return self.asker.twin()

    def machine(self, name):
        """A twin of this machine."""
        return self.built(name).twin()

    def on_way(self):
        """The list of the packets on the way."""
        return [(quote, list(rows)) for quote, rows in self.way]

    def __len__(self):
        return len(self.way)

    def twin(self):
        """Another yard, alike in all that is asked."""
        other = Yard(life=self.life)
        other.asker = self.asker.twin()
        other.machines = {name: self.machines[name].twin() for name in self.machines}
        other.last_asked = dict(self.last_asked)
        other.way = list(self.way)
        return other
