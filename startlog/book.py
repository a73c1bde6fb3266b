"""An asker's book of several machines."""

from startlog.errors import Known, TooMany, Unknown
from startlog.machines import first_false
from startlog.mixing import Mixing
from startlog.quotes import is_quote, is_signed
from startlog.replays import leads_to
from startlog.rows import is_row
from startlog.verdicts import fits
from startlog.words import BOARDS, FIXED, LIFE, MACHINES


def are_rows(thing):
    """Whether thing is a list or a tuple of rows."""
    return isinstance(thing, (list, tuple)) and all([is_row(row) for row in thing])


class Entry:
    """What the book keeps of one machine."""

    def __init__(self, key, mixing, policy, plan, many, fixed):
        self.key = key
        self.mixing = mixing
        self.policy = tuple(policy)
        self.plan = tuple(plan)
        self.many = many
        self.fixed = fixed
        # The tick at which each number was asked, of those that no quote was taken of.
        self.ticks = {}
        # (start, rows) of the last good quote.
        self.good = None
        self.words = []

    def word_of(self, quote, rows):
        """The word due of a quote whose sign and number are right."""
        start, values = quote[1], quote[3]
        if self.good is not None and start < self.good[0]:
            return "back"
        if [board for board, value in values] != list(range(self.many)):
            return "few"
        numbers = [value for board, value in values]
        if not leads_to(self.mixing, rows, numbers, many=self.many, fixed=self.fixed):
            return "boards"
        if self.is_cut(start, rows):
            return "cut"
        if first_false(self.plan, rows) is not None:
            return "plan"
        return "good" if fits(self.policy, rows) else "policy"

    def is_cut(self, start, rows):
        """Whether these rows, of this start, don't go on from the last good ones of the same."""
        if self.good is None or start != self.good[0]:
            return False
        return rows[:len(self.good[1])] != self.good[1]

    def twin(self):
        """Another one, alike."""
        other = Entry(self.key, self.mixing, self.policy, self.plan, self.many, self.fixed)
        other.ticks = dict(self.ticks)
        other.good = self.good
        other.words = list(self.words)
        return other


class Book:
    """The machines that may be asked, and what was asked of them and taken."""

    def __init__(self, *, life=LIFE, most=MACHINES):
        self.life = life
        self.most = most
        self.entries = {}
        self.now = 0
        self.given = 0
        # What deeds.do writes: its log, and whether it's at work.
        self.noted = []
        self.is_busy = False

    def entry(self, name):
        """The machine of this name; Unknown where there is none."""
        if name not in self.entries:
            raise Unknown(name)
        return self.entries[name]

    def know(self, name, key, *, mixing=None, policy=(), plan=(), many=BOARDS, fixed=FIXED):
        """A machine more that may be asked."""
        if name in self.entries:
            raise Known(name)
        if len(self.entries) >= self.most:
            raise TooMany(self.most)
        used = Mixing() if mixing is None else mixing
        self.entries[name] = Entry(key, used, policy, plan, many, fixed)

    def put(self, name, *, policy=None, plan=None):
        """Another policy or plan, or both, from now on."""
        entry = self.entry(name)
        if policy is not None:
            entry.policy = tuple(policy)
        if plan is not None:
            entry.plan = tuple(plan)

    def drop(self, name):
        """The machine is known no more, nor what was asked of it."""
        self.entry(name)
        del self.entries[name]

    def ask(self, name):
        """A number that is asked of this machine from now on."""
        entry = self.entry(name)
        self.given += 1
        entry.ticks[self.given] = self.now
        return self.given

    def tick(self, *, many=1):
        """So many ticks, one at least, go by."""
        self.now += max(1, many)

    def is_asked(self, entry, number):
        """Whether this number is asked of this machine now."""
        return number in entry.ticks and self.now - entry.ticks[number] < self.life

    def take(self, quote, log):
        """The first word due of this quote and log."""
        if not is_quote(quote) or not are_rows(log):
            return "form"
        name, start, number = quote[:3]
        if name not in self.entries:
            return "strange"
        entry = self.entries[name]
        if not is_signed(entry.key, quote):
            return "sign"
        if not self.is_asked(entry, number):
            return "number"
        del entry.ticks[number]
        rows = tuple(log)
        word = entry.word_of(quote, rows)
        entry.words.append((number, word))
        if word == "good":
            entry.good = (start, rows)
        return word

    def names(self):
        """The rising list of the machines' names."""
        return sorted(list(self.entries))

    def asked(self, name):
        """The rising list of the numbers that are asked of this machine."""
        entry = self.entry(name)
        return [number for number in sorted(list(entry.ticks)) if self.is_asked(entry, number)]

    def last(self, name):
        """(start, log) of this machine's last good quote, None where there is none."""
        good = self.entry(name).good
        return None if good is None else (good[0], list(good[1]))

    def history(self, name):
        """The list of (number, word) of all quotes by which a number was asked no more."""
        return list(self.entry(name).words)

    def log(self):
        """The log of all rows of deeds."""
        return list(self.noted)

    def is_open(self):
        """Whether no row of deeds is at work."""
        return not self.is_busy

    def __len__(self):
        return len(self.entries)

    def twin(self):
        """Another book, alike in all that is asked."""
        other = Book(life=self.life, most=self.most)
        other.entries = {name: self.entries[name].twin() for name in self.entries}
        other.now = self.now
        other.given = self.given
        other.noted = list(self.noted)
        other.is_busy = self.is_busy
        return other
