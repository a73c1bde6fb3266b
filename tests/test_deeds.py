"""Rows of deeds, done to a book one behind the other [22], [1] (g)."""

import collections
import copy
import functools
import unittest

from startlog.book import Book
from startlog.deeds import do
from startlog.errors import BadDeed, Known, TooMany, Unknown
from startlog.quotes import quote_of
from tests.books import PlainBook, all_of, altered, machine_at, outcome
from tests.policies import seeded
from tests.samples import THINGS, Asking, kinds

BARE = (0, 1), (1, 1), (2, 1), (3, 1)

# Things that are no deed.
NO_DEEDS = (
    *THINGS, "ask", "tick", ("ask",), ("ask", "ann", "bob"), ["ask", "ann"], ("tick",), ("tick", 1, 1), ("take",),
    ("take", 1), ("take", 1, [], []), ("know", "ann"), ("know", "ann", 5, None), ("know",), ("drop",),
    ("drop", "ann", 5), ("put", "ann"), ("put", "ann", [], []), ("asked", "ann"), ("last", "ann"), ("twin",), ("names",),
    ("log",), ("Ask", "ann"), ("ask ", "ann"), ("asks", "ann"), ("", "ann"), (None, "ann"), (5, "ann"),
    (["ask"], "ann"), (("ask",), "ann"), (("ask", "ann"),), [("ask", "ann")], ("do", []), ("is_open",), ("know", "ask"),
    ("ann", "ask"), ("tick", 0), ("tick", -1), ("tick", True), ("tick", None), ("tick", "1"), ("ask", 5), ("ask", None),
    ("drop", ["ann"]), ("know", 5, "ann"), ("know", "ann", True), ("know", "ann", None),
)


def quoted(number, *, start=1, key=5, name="ann"):
    """A quote of boards on which nothing was noted."""
    return quote_of(key, name, start, number, BARE)


def known(**names):
    """A book that knows ann."""
    book = Book(**names)
    book.know("ann", 5)
    return book


class ByHand(Asking):

    def test_the_documents_own(self):
        book = known()
        self.refused_by(Unknown, "bob", book, [("ask", "ann"), ("ask", "bob")])
        self.same(book.log(), [("in", 2), "ask", ("out", 1)])
        self.assertIs(book.is_open(), True)
        self.same(book.asked("ann"), [1])

    def refused_by(self, error, what, book, deeds):
        kept = copy.deepcopy(deeds)
        with self.assertRaises(error) as caught:
            do(book, deeds)
        self.assertIs(type(caught.exception), error)
        self.same(caught.exception.what, what)
        self.same(deeds, kept)

    def test_none(self):
        for deeds in ([], ()):
            book = Book()
            self.same(do(book, deeds), [])
            self.same(book.log(), [("in", 0), ("out", 0)])
            self.assertIs(book.is_open(), True)

    def test_all_words(self):
        deeds = [
            ("know", "ann", 5), ("ask", "ann"), ("take", quoted(1), []), ("tick", 3), ("ask", "ann"),
            ("take", quoted(1), ()), ("take", None, None), ("drop", "ann"),
        ]
        told = [None, 1, "good", None, 2, "number", "form", None]
        for ask in (lambda book: do(book, deeds), lambda book: do(deeds=tuple(deeds), book=book)):
            book = Book()
            self.same(ask(book), told)
            words = ["know", "ask", "take", "tick", "ask", "take", "take", "drop"]
            self.same(book.log(), [("in", 8), *words, ("out", 8)])
            self.assertIs(book.is_open(), True)
            self.assertEqual(len(book), 0)

    def test_one_behind_the_other(self):
        book = Book()
        self.same(do(book, [("know", "ann", 5)]), [None])
        self.same(do(book, [("ask", "ann"), ("ask", "ann")]), [1, 2])
        self.same(do(book, []), [])
        self.same(book.log(), [("in", 1), "know", ("out", 1), ("in", 2), "ask", "ask", ("out", 2), ("in", 0), ("out", 0)])

    def test_what_is_known_by_a_deed(self):
        book = Book()
        do(book, [("know", "ann", 5), ("ask", "ann")])
        machine = machine_at()
        self.assertEqual(book.take(machine.quote(1), machine.log()), "good")

    def test_ticks(self):
        for many in (1, 2, 8, 9, 10, 10 ** 6):
            book = known()
            self.same(do(book, [("ask", "ann"), ("tick", many), ("ask", "ann")]), [1, None, 2])
            self.same(book.asked("ann"), [1, 2] if many < 9 else [2])

    def test_each_refusal(self):
        for place in range(8):
            for error, what, deed in (
                (Known, "ann", ("know", "ann", 6)), (Unknown, "bob", ("ask", "bob")), (Unknown, "bob", ("drop", "bob")),
                (TooMany, 1, ("know", "bob", 6)), (Unknown, "zzzz", ("ask", "zzzz")),
            ):
                book = known(most=1)
                deeds = [("ask", "ann")] * place + [deed] + [("ask", "ann"), ("drop", "ann")][:7 - place]
                self.refused_by(error, what, book, deeds)
                self.same(book.log(), [("in", len(deeds)), *["ask"] * place, ("out", place)])
                self.assertIs(book.is_open(), True)
                self.same(book.asked("ann"), list(range(1, place + 1)))
                self.same(do(book, [("ask", "ann")]), [place + 1])

    def test_the_book_by_itself_logs_nothing(self):
        book = known()
        book.ask("ann")
        book.tick()
        book.take(quoted(1), [])
        book.drop("ann")
        self.same(book.log(), [])
        self.assertIs(book.is_open(), True)


class Peeking(Book):
    """A book that notes whether it's open, and what is logged, when it's asked."""

    def __init__(self):
        super().__init__()
        self.seen = []

    def ask(self, name):
        self.seen.append((self.is_open(), self.log(), self.twin().is_open()))
        if name == "eve":
            raise KeyError(name)
        return super().ask(name)


class AtWork(Asking):

    def test_a_book_is_not_open_amid_a_row(self):
        book = Peeking()
        book.know("ann", 5)
        do(book, [("tick", 1), ("ask", "ann")])
        self.same(book.seen, [(False, [("in", 2), "tick"], False)])
        self.assertIs(book.is_open(), True)
        book.ask("ann")
        self.same(book.seen[1][0], True)

    def test_whatever_goes_wrong_it_is_open_behind(self):
        book = Peeking()
        with self.assertRaises(KeyError):
            do(book, [("tick", 1), ("ask", "eve"), ("tick", 1)])
        self.assertIs(book.is_open(), True)
        self.same(book.log(), [("in", 3), "tick", ("out", 1)])


class NoDeeds(Asking):

    def test_at_each_place(self):
        for thing in NO_DEEDS:
            for place in range(8):
                for rest in (0, 7 - place):
                    deeds = [("ask", "ann")] * place + [thing] + [("tick", 1)] * rest
                    book = known()
                    before = all_of(book)
                    self.refused(BadDeed, place, functools.partial(do, book), deeds)
                    self.refused(BadDeed, place, functools.partial(do, book), tuple(deeds))
                    self.same(all_of(book), before)

    def test_the_first_of_several(self):
        for place in range(7):
            deeds = [("ask", "ann")] * place + [("ask",), None]
            self.refused_all_ways(BadDeed, place, functools.partial(do, known()), {"deeds": deeds})
            self.refused(BadDeed, place, functools.partial(do, book=known()), deeds=deeds)

    def test_ahead_of_all(self):
        book = known()
        before = all_of(book)
        self.refused(BadDeed, 2, functools.partial(do, book), [("ask", "bob"), ("know", "ann", 5), ("ask",)])
        self.same(all_of(book), before)

    def test_take_of_any_things(self):
        for thing in THINGS:
            for other in THINGS:
                book = known()
                self.same(do(book, [("ask", "ann"), ("take", thing, other)]), [1, "form"])
                self.same(book.log(), [("in", 2), "ask", "take", ("out", 2)])

    def test_names_of_any_text(self):
        for name in ("nobody", "Ann", "", "a b", "ann "):
            book = known()
            self.refused(Unknown, name, functools.partial(do, book), [("ask", name)])
            self.refused(Unknown, name, functools.partial(do, book), [("drop", name)])
            self.assertEqual(len(book.log()), 8)


class Lists(Asking):

    def test_lists_handed_in_are_not_kept(self):
        log = [(0, "load", "kern", 17)]
        machine_quote = quote_of(5, "ann", 1, 1, ((0, 1 * 26500305465 + 1),))
        book = known()
        deeds = [("ask", "ann"), ("take", machine_quote, log), ("take", quoted(1), [])]
        kept = copy.deepcopy(deeds)
        told = do(book, deeds)
        self.same(deeds, kept)
        before = all_of(book)
        deeds.append(("drop", "ann"))
        log.append("more")
        told.append("more")
        self.same(all_of(book), before)

    def test_a_taken_log_is_the_books_own(self):
        machine = machine_at()
        log = machine.log()
        book = known()
        do(book, [("ask", "ann"), ("take", machine.quote(1), log)])
        log.clear()
        self.same(book.last("ann"), (1, machine.log()))

    def test_told_lists_are_the_askers_own(self):
        book = known()
        first, second = do(book, [("ask", "ann")]), do(book, [])
        first.append(5)
        self.same(second, [])
        self.own(book.log)
        twin = book.twin()
        do(twin, [("tick", 1)])
        self.same(book.log(), [("in", 1), "ask", ("out", 1), ("in", 0), ("out", 0)])
        self.same(twin.log(), [*book.log(), ("in", 1), "tick", ("out", 1)])
        self.assertIs(twin.is_open(), True)


class Histories(Asking):

    def some_deed(self, chance, plain, machine):
        name = chance.choice(("ann", "ann", "ann", "bob", "eve"))
        deed = chance.choice(("know", "know", "drop", *["ask"] * 6, "tick", *["take"] * 5))
        if deed == "know":
            return (deed, name, 5)
        if deed == "tick":
            return (deed, chance.choice((1, 1, 2, 9)))
        if deed != "take":
            return (deed, name)
        if chance.random() < 0.3:
            machine.late(1, "disk", 5)
        quote, log = machine.quote(chance.randint(1, len(plain.asks) + 2)), machine.log()
        return (deed, *(altered(chance, quote, log) if chance.random() < 0.4 else (quote, log)))

    def test_none_to_eight_deeds_beside_a_plain_reckoning(self):
        came_of = collections.Counter()
        for seed, chance in seeded(150):
            life, most = chance.choice((1, 3, 9)), chance.choice((1, 2, 8))
            book, plain, machine = Book(life=life, most=most), PlainBook(life, most), machine_at()
            for _ in range(12):
                deeds = [self.some_deed(chance, plain, machine) for _ in range(chance.randint(0, 8))]
                before = book.twin()
                with self.subTest(seed):
                    came = outcome(do, book, chance.choice((list, tuple))(deeds))
                    self.same(came, outcome(plain.do, deeds))
                    self.same(all_of(book), plain.all())
                    self.as_if_just_those_ahead(before, book, deeds)
                came_of[came[0]] += 1
        self.assertGreater(min(came_of[word] for word in ("told", "Known", "Unknown", "TooMany")), 20)

    def as_if_just_those_ahead(self, before, book, deeds):
        """(g) of [1]: both ends are logged, and the book stands as if just those ahead had been done."""
        more = book.log()[len(before.log()):]
        self.assertEqual(more[0], ("in", len(deeds)))
        self.assertEqual(kinds(more[-1]), kinds(("out", 1)))
        done = more[-1][1]
        self.same(more, [("in", len(deeds)), *[deed[0] for deed in deeds[:done]], ("out", done)])
        self.assertIs(book.is_open(), True)
        for word, *things in deeds[:done]:
            if word == "tick":
                before.tick(many=things[0])
            else:
                getattr(before, word)(*things)
        self.same({**all_of(before), "log": []}, {**all_of(book), "log": []})


if __name__ == "__main__":
    unittest.main()
