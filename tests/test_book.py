"""An asker's book of several machines [21], [1] (f)."""

import collections
import copy
import itertools
import unittest

from startlog.book import Book
from startlog.errors import Known, TooMany, Unknown
from startlog.machines import plan_of
from startlog.mixing import Mixing
from startlog.quotes import quote_of
from startlog.replays import replay
from tests.books import HANDS, PlainBook, all_of, altered, machine_at, outcome, some_book, some_mixing
from tests.policies import seeded, some_policy
from tests.samples import NAMES, NO_ROWS, THINGS, Asking

WORDS = ("form", "strange", "sign", "number", "back", "few", "boards", "cut", "plan", "policy")

# Behind these a quote's number is asked no more.
TAKEN = ("back", "few", "boards", "cut", "plan", "policy", "good")

PLANNED = (0, "load", "kern", 17)
OTHER = (0, "load", "fan", 17)
MORE = (1, "set", "disk", 5)
BAD = (1, "set", "bad", 5)


def quoted(start, number, log, *, key=5, name="ann", values=None, many=4, mixing=None):
    """A quote of the boards that the log leads to, and the log."""
    boards = replay(mixing or Mixing(), log, many=many) if values is None else values
    return quote_of(key, name, start, number, tuple(enumerate(boards))), log


def known(**names):
    """A book that knows ann."""
    book = Book()
    book.know("ann", 5, **names)
    return book


def with_good(start, log, **names):
    """A book of which ann's last good quote was of this start and log, and the next number."""
    book = known(**names)
    assert book.take(*quoted(start, book.ask("ann"), log)) == "good"
    return book, book.ask("ann")


def faulty(faults, number):
    """A quote and a log with just these faults, for a book whose last good one was of start 3."""
    start = 2 if "back" in faults else 3 if "cut" in faults else 4
    log = [OTHER if "plan" in faults else PLANNED, (1, "set", "net", 5)] + [BAD] * ("policy" in faults)
    boards = list(enumerate(replay(Mixing(), log)))
    if "boards" in faults:
        boards[1] = (1, boards[1][1] + 1)
    if "few" in faults:
        boards.pop()
    quote = quote_of(
        6 if "sign" in faults else 5, "bob" if "strange" in faults else "ann", start,
        999 if "number" in faults else number, tuple(boards),
    )
    return (list(quote) if "form" in faults else quote), log


class Knowing(Asking):

    def test_a_new_book(self):
        for book in (Book(), Book(life=1), Book(most=0), Book(most=3, life=99)):
            self.same(all_of(book), {"len": 0, "names": [], "log": [], "is_open": True, "machines": {}})

    def test_by_names_alone(self):
        self.by_names_alone(Book, 9)
        book = known()
        self.by_names_alone(book.tick, 1)
        self.by_names_alone(book.put, "ann", [])
        self.by_names_alone(book.know, "bob", 5, Mixing())
        self.assertEqual(book.names(), ["ann"])

    def test_know(self):
        book = Book()
        self.assertIsNone(book.know("kern", 7))
        self.assertIsNone(book.know(key=0, name="a"))
        self.assertIsNone(book.know(fixed=0, plan=[], many=1, key=10 ** 6, policy=[], mixing=Mixing(3), name="zzzz"))
        self.same(book.names(), ["a", "kern", "zzzz"])
        self.assertEqual(len(book), 3)
        for name in book.names():
            self.same((book.asked(name), book.last(name), book.history(name)), ([], None, []))

    def test_names_rise(self):
        book = Book()
        for name in NAMES[:8]:
            book.know(name, 1)
        self.same(book.names(), sorted(NAMES[:8]))

    def test_known(self):
        book = known()
        for names in ({}, {"policy": [("must", "a")]}, {"plan": [MORE]}, {"many": 1, "fixed": 0}):
            self.refused_all_ways(Known, "ann", book.know, {"name": "ann", "key": 6}, **names)
        self.same(all_of(book), all_of(known()))
        self.assertEqual(book.take(*quoted(1, book.ask("ann"), [BAD])), "good")

    def test_too_many(self):
        for most in range(9):
            book = Book(most=most)
            for name in NAMES[:most]:
                book.know(name, 1)
            before = all_of(book)
            self.refused_all_ways(TooMany, most, book.know, {"name": "kern", "key": 1})
            for name in NAMES[:most]:
                self.refused(Known, name, book.know, name, 1)
            self.same(all_of(book), before)
        book = Book()
        for name in NAMES[:8]:
            book.know(name, 1)
        self.refused(TooMany, 8, book.know, "x", 1)
        book.drop(NAMES[3])
        book.know("x", 1)
        self.refused(TooMany, 8, book.know, NAMES[3], 1)

    def test_unknown(self):
        for book in (Book(), known()):
            before = all_of(book)
            for name in ("bob", "a", "zzzz", "an", "anna"):
                for asked in (book.put, book.drop, book.ask, book.asked, book.last, book.history):
                    self.refused_all_ways(Unknown, name, asked, {"name": name})
                self.refused(Unknown, name, book.put, name, policy=[("must", "a")], plan=[MORE])
            self.same(all_of(book), before)
        self.assertEqual(book.ask("ann"), 1)

    def test_drop(self):
        book = known()
        book.know("bob", 6)
        book.ask("ann")
        self.assertIsNone(book.drop(name="ann"))
        self.same((book.names(), len(book)), (["bob"], 1))
        self.refused(Unknown, "ann", book.drop, "ann")

    def test_known_again_it_is_a_new_one(self):
        book, number = with_good(3, [PLANNED], plan=[PLANNED], policy=[("most", "bad", 0)])
        self.assertEqual(book.asked("ann"), [2])
        book.drop("ann")
        book.know("ann", 5)
        self.same((book.asked("ann"), book.last("ann"), book.history("ann")), ([], None, []))
        self.assertEqual(book.take(*quoted(3, number, [PLANNED])), "number")
        self.assertEqual(book.ask("ann"), 3)
        self.assertEqual(book.take(*quoted(1, 3, [OTHER, BAD])), "good")
        self.same((book.last("ann"), book.history("ann")), ((1, [OTHER, BAD]), [(3, "good")]))


class Asked(Asking):

    def test_each_number_once_of_all_machines(self):
        book = known()
        book.know("bob", 6)
        self.assertEqual([book.ask(name) for name in ("ann", "bob", "bob", "ann")], [1, 2, 3, 4])
        self.same((book.asked("ann"), book.asked(name="bob")), ([1, 4], [2, 3]))
        book.drop("bob")
        self.assertEqual(book.ask(name="ann"), 5)
        book.know("bob", 6)
        self.assertEqual(book.ask("bob"), 6)
        self.same((book.asked("ann"), book.asked("bob")), ([1, 4, 5], [6]))

    def test_numbers_lapse_tick_by_tick(self):
        for life in (1, 2, 9, 98, 99):
            book = Book(life=life)
            book.know("ann", 5)
            for tick in range(3 * life):
                told = [number for number in range(1, tick + 1) if tick - (number - 1) < life]
                self.same(book.asked("ann"), told)
                self.assertEqual(book.ask("ann"), tick + 1)
                self.assertIsNone(book.tick())

    def test_numbers_lapse_many_at_once(self):
        for many in range(1, 13):
            book = known()
            book.ask("ann")
            book.tick()
            book.ask("ann")
            book.tick(many=many)
            self.same(book.asked("ann"), [1] * (many < 8) + [2] * (many < 9))
        book = known()
        book.ask("ann")
        book.tick(many=10 ** 6)
        self.same(book.asked("ann"), [])
        self.assertEqual(book.ask("ann"), 2)
        self.same(book.asked("ann"), [2])

    def test_one_tick_at_least(self):
        book = Book(life=1)
        book.know("ann", 5)
        book.ask("ann")
        book.tick(many=1)
        self.assertEqual(book.asked("ann"), [])
        book.ask("ann")
        book.tick(many=0)
        self.assertEqual(book.asked("ann"), [])

    def test_a_lapsed_number_isnt_taken(self):
        for ticks in range(12):
            book = known()
            number = book.ask("ann")
            for _ in range(ticks):
                book.tick()
            told = "good" if ticks < 9 else "number"
            self.assertEqual(book.take(*quoted(1, number, [])), told)
            self.same(book.history("ann"), [(1, "good")] if ticks < 9 else [])

    def test_somewhat_beyond_the_bounds(self):
        book = Book(life=150, most=12)
        for letter in "abcdefghijkl":
            book.know(letter, 1)
        self.refused(TooMany, 12, book.know, "m", 1)
        book.ask("a")
        book.tick(many=149)
        self.assertEqual(book.asked("a"), [1])
        book.tick()
        self.assertEqual(book.asked("a"), [])


class Take(Asking):

    def check(self, word, book, quote, log):
        """Told by places and by names, and with the log as a tuple; behind it just what the word says is otherwise."""
        before = all_of(book)
        for handed in (log, tuple(log) if isinstance(log, list) else log):
            for ask in (lambda one: one.take(quote, handed), lambda one: one.take(log=handed, quote=quote)):
                twin = book.twin()
                kept = copy.deepcopy((quote, handed))
                self.same(ask(twin), word)
                self.same((quote, handed), kept)
                self.behind(before, all_of(twin), word, quote, log)
        self.same(all_of(book), before)

    def behind(self, before, after, word, quote, log):
        if word in TAKEN:
            asked, last, history = before["machines"][quote[0]]
            asked.remove(quote[2])
            last = (quote[1], list(log)) if word == "good" else last
            told = {**before["machines"], quote[0]: (asked, last, [*history, (quote[2], word)])}
            self.same(after, {**before, "machines": told})
            asked.append(quote[2])
            asked.sort()
        else:
            self.same(after, before)

    def test_good(self):
        book = known(policy=[("must", "kern")], plan=[PLANNED])
        number = book.ask("ann")
        self.check("good", book, *quoted(0, number, [PLANNED, MORE]))

    def test_all_faults_at_once_the_first_is_told(self):
        book = known(policy=[("most", "bad", 0)], plan=[PLANNED])
        self.assertEqual(book.take(*quoted(3, book.ask("ann"), [PLANNED, MORE])), "good")
        number = book.ask("ann")
        checked = 0
        for many in range(len(WORDS) + 1):
            for faults in itertools.combinations(WORDS, many):
                if not {"back", "cut"} <= set(faults):
                    self.check((*faults, "good")[0], book, *faulty(faults, number))
                    checked += 1
        self.assertEqual(checked, 768)

    def test_form_of_the_quote(self):
        book = known()
        quote, log = quoted(1, book.ask("ann"), [MORE])
        name, start, number, values, sign = quote
        for thing in (*THINGS, quote[:4], (*quote, 0), list(quote), (5, *quote[1:]), ("Ann", *quote[1:]),
                      (name, -1, *quote[2:]), (name, True, *quote[2:]), (name, start, True, values, sign),
                      (name, start, number, list(values), sign), (name, start, number, values, 1000000000039),
                      (name, start, number, values[::-1], sign), (name, start, number, (list(values[0]),), sign),
                      (name, start, number, values, None), (quote,), [quote]):
            self.check("form", book, thing, log)

    def test_form_of_the_log(self):
        book = known()
        quote, log = quoted(1, book.ask("ann"), [MORE])
        for thing in THINGS:
            if thing != [] and thing != ():
                self.check("form", book, quote, thing)
        for thing in NO_ROWS:
            self.check("form", book, quote, [thing])
            self.check("form", book, quote, [*log, thing])
            self.check("form", book, quote, [thing, *log])
        self.check("form", book, None, None)
        self.check("boards", book, quote, [])
        self.check("boards", book, quote, [(7, "reset", "a", 0)])

    def test_strange(self):
        book = known()
        number = book.ask("ann")
        self.check("strange", book, *quoted(1, number, [], name="bob"))
        book.know("bob", 6)
        self.check("sign", book, *quoted(1, number, [], name="bob"))
        self.check("number", book, *quoted(1, number, [], name="bob", key=6))
        book.drop("ann")
        self.check("strange", book, *quoted(1, number, []))

    def test_sign(self):
        book = known()
        number = book.ask("ann")
        quote, log = quoted(1, number, [MORE])
        name, start, number, values, sign = quote
        for other in ((name, start + 1, number, values, sign), (name, start, number + 1, values, sign),
                      (name, start, number, values[:3], sign), (name, start, number, values, sign + 1),
                      (name, start, number, ((0, 2), *values[1:]), sign)):
            self.check("sign", book, other, log)
        for key in (0, 4, 6, 10 ** 6):
            self.check("sign", book, *quoted(1, number, [MORE], key=key))
        self.check("good", book, quote, log)

    def test_number(self):
        book = known()
        book.know("bob", 6)
        own, others = book.ask("ann"), book.ask("bob")
        for number in (0, others, 3, 10 ** 30):
            self.check("number", book, *quoted(1, number, []))
        book.take(*quoted(1, own, []))
        self.check("number", book, *quoted(1, own, []))
        self.check("number", book, *quoted(2, own, [MORE]))

    def test_whatever_is_told_the_number_is_asked_no_more(self):
        for fault in ("back", "few", "boards", "cut", "plan", "policy"):
            book, number = with_good(3, [PLANNED, MORE], policy=[("most", "bad", 0)], plan=[PLANNED])
            self.assertEqual(book.take(*faulty((fault,), number)), fault)
            self.check("number", book, *faulty((), number))
            self.same(book.history("ann"), [(1, "good"), (2, fault)])
            self.same(book.last("ann"), (3, [PLANNED, MORE]))

    def test_back(self):
        book, number = with_good(3, [MORE])
        for start in (0, 1, 2):
            self.check("back", book, *quoted(start, number, [MORE]))
        for start in (3, 4, 99):
            self.check("good", book, *quoted(start, number, [MORE]))
        for start in (0, 5):
            book = known()
            self.check("good", book, *quoted(start, book.ask("ann"), []))

    def test_back_is_reckoned_from_the_last_good_one_alone(self):
        book, number = with_good(3, [MORE])
        self.assertEqual(book.take(*quoted(9, number, [MORE], values=[1, 1, 1, 1])), "boards")
        self.check("good", book, *quoted(4, book.ask("ann"), [OTHER]))

    def test_few(self):
        for many in range(1, 9):
            book = known(many=many, fixed=0)
            number = book.ask("ann")
            values = [1] * many
            self.check("good", book, *quoted(1, number, [], values=values))
            for boards in [one for k in range(9) for one in itertools.combinations(range(8), k)]:
                quote = quote_of(5, "ann", 1, number, tuple((board, 1) for board in boards))
                self.assertEqual(book.twin().take(quote, []), "good" if boards == tuple(range(many)) else "few")
            self.check("few", book, quote_of(5, "ann", 1, number, tuple(enumerate(values[:-1]))), [])

    def test_boards(self):
        book = known()
        number = book.ask("ann")
        log = [PLANNED, MORE]
        values = replay(Mixing(), log)
        for board in range(4):
            other = list(values)
            other[board] += 1
            self.check("boards", book, *quoted(1, number, log, values=other))
        for other in ([], [PLANNED], [MORE, PLANNED, MORE], [OTHER, MORE], [*log, MORE]):
            self.check("boards", book, quoted(1, number, log)[0], other)
        # Rows of unlike boards may change places: the boards are the same.
        self.check("good", book, quoted(1, number, log)[0], [MORE, PLANNED])

    def test_boards_of_logs_that_cant_stand(self):
        book = known()
        number = book.ask("ann")
        end = (0, "end", "kern", 0)
        for log in ([(1, "late", "fan", 5)], [end, PLANNED], [end, end], [(3, "reset", "fan", 0)]):
            values = replay(Mixing(), [end, (3, "reset", "fan", 0)]) if log[0][1] == "reset" else [1] * 4
            self.check("boards", book, *quoted(1, number, log, values=values))
        self.check("boards", book, *quoted(1, number, [end, (1, "reset", "fan", 0)], values=[1, 2, 1, 1]))
        self.check("good", book, *quoted(1, number, [end, (2, "reset", "fan", 0)]))
        narrow = known(many=2, fixed=2)
        self.check("boards", narrow, quote_of(5, "ann", 1, narrow.ask("ann"), ((0, 1), (1, 1))), [(2, "set", "a", 0)])

    def test_mixings_many_and_fixed(self):
        for _, chance in seeded(60):
            mixing, many = some_mixing(chance), chance.randint(4, 8)
            fixed = chance.randint(0, many)
            machine = machine_at(late=3, mixing=mixing, many=many, fixed=fixed)
            if fixed < many:
                machine.reset(many - 1, "fan")
            book = known(mixing=mixing, many=many, fixed=fixed)
            number = book.ask("ann")
            self.check("good", book, machine.quote(number), machine.log())
            if many > 4:
                self.check("few", book, machine.quote(number, some=[0, 1, 2, 3]), machine.log())
            for other in (Mixing(103), Mixing(101, factor=8)):
                book = known(mixing=other, many=many, fixed=fixed)
                book.ask("ann")
                self.check("boards", book, machine.quote(1), machine.log())

    def test_cut(self):
        book, number = with_good(3, [PLANNED, MORE])
        for log in ([PLANNED], [], [MORE, PLANNED], [PLANNED, BAD], [PLANNED, BAD, MORE], [OTHER, MORE]):
            self.check("cut", book, *quoted(3, number, log))
            self.check("good", book, *quoted(4, number, log))
        for log in ([PLANNED, MORE], [PLANNED, MORE, BAD]):
            self.check("good", book, *quoted(3, number, log))
        bare, number = with_good(3, [])
        self.check("good", bare, *quoted(3, number, [BAD]))

    def test_a_log_goes_on_from_the_last_good_one(self):
        book = known()
        log = []
        for many in range(20):
            log = [*log, (many % 4, "set", "fan", many)]
            self.assertEqual(book.take(*quoted(2, book.ask("ann"), log)), "good")
            self.same(book.last("ann"), (2, log))
            self.assertEqual(book.take(*quoted(2, book.ask("ann"), log[:-1])), "cut")
            self.same(book.last("ann"), (2, log))

    def test_plan(self):
        plan = [PLANNED, MORE, BAD]
        book = known(plan=plan)
        number = book.ask("ann")
        for many in range(4):
            self.check("good", book, *quoted(1, number, plan[:many]))
            if many < 3:
                self.check("plan", book, *quoted(1, number, [*plan[:many], OTHER]))
                self.check("plan", book, *quoted(1, number, [*plan[:many], OTHER, *plan[many + 1:], MORE]))
        self.check("good", book, *quoted(1, number, [*plan, OTHER]))

    def test_policy(self):
        policy = [("must", "kern"), ("most", "bad", 0)]
        book = known(policy=policy)
        number = book.ask("ann")
        self.check("policy", book, *quoted(1, number, []))
        self.check("good", book, *quoted(1, number, [PLANNED]))
        self.check("policy", book, *quoted(1, number, [PLANNED, BAD]))

    def test_great_numbers(self):
        book = known()
        number = book.ask("ann")
        self.check("boards", book, *quoted(10 ** 300, number, [MORE], values=[10 ** 699] * 4))
        log = [(0, "load", "zzzz", 9972)] * 60
        self.check("good", book, *quoted(10 ** 300, number, log))
        self.check("good", book, *quoted(1, number, log * 2))

    def test_what_a_machine_tells_is_good(self):
        machine = machine_at(late=2)
        book = known(plan=plan_of(HANDS))
        self.check("good", book, machine.quote(book.ask("ann")), machine.log())


class Put(Asking):

    def test_policy_and_plan_from_now_on(self):
        book = known(policy=[("most", "bad", 0)], plan=[PLANNED])
        take = lambda start, log: book.take(*quoted(start, book.ask("ann"), log))  # noqa: E731
        self.assertEqual(take(1, [PLANNED, BAD]), "policy")
        self.assertIsNone(book.put("ann", policy=[]))
        self.assertEqual(take(1, [PLANNED, BAD]), "good")
        self.assertEqual(take(2, [OTHER]), "plan")
        self.assertIsNone(book.put(plan=(OTHER,), name="ann"))
        self.assertEqual(take(2, [OTHER]), "good")
        self.assertEqual(take(3, [PLANNED]), "plan")
        self.assertIsNone(book.put("ann"))
        self.assertEqual(take(3, [PLANNED]), "plan")
        self.assertIsNone(book.put("ann", plan=(), policy=(("must", "z"),)))
        self.assertEqual(take(3, [PLANNED]), "policy")
        self.assertEqual(take(3, [(3, "set", "z", 0)]), "good")

    def test_what_was_good_stays_so(self):
        book, number = with_good(3, [OTHER])
        before = all_of(book)
        book.put("ann", policy=[("most", "fan", 0)], plan=[PLANNED])
        self.same(all_of(book), before)
        self.assertEqual(book.take(*quoted(3, number, [PLANNED])), "cut")

    def test_of_one_machine_alone(self):
        book = known()
        book.know("bob", 6)
        book.put("ann", policy=[("must", "z")])
        self.assertEqual(book.take(*quoted(1, book.ask("bob"), [], name="bob", key=6)), "good")
        self.assertEqual(book.take(*quoted(1, book.ask("ann"), [])), "policy")


class Lists(Asking):

    def test_lists_handed_in_are_not_kept(self):
        policy, plan, log = [("most", "bad", 0)], [PLANNED], [PLANNED, MORE]
        book = known(policy=policy, plan=plan)
        policy.append(("must", "z"))
        plan.insert(0, OTHER)
        quote, _ = quoted(1, book.ask("ann"), log)
        self.assertEqual(book.take(quote, log), "good")
        log.append(BAD)
        self.same(book.last("ann"), (1, [PLANNED, MORE]))
        policy, plan = [("must", "disk")], [PLANNED]
        book.put("ann", policy=policy, plan=plan)
        policy.clear()
        plan.append(BAD)
        self.assertEqual(book.take(*quoted(2, book.ask("ann"), [PLANNED, MORE])), "good")
        self.assertEqual(book.take(*quoted(3, book.ask("ann"), [PLANNED])), "policy")

    def test_told_lists_are_the_askers_own(self):
        book, _ = with_good(3, [PLANNED, MORE])
        for name in ("asked", "last", "history"):
            self.own(getattr(book, name), "ann")
        self.own(book.names)
        self.own(book.log)
        self.own(Book().names)

    def test_asking_changes_nothing(self):
        book, _ = with_good(3, [PLANNED, MORE])
        self.same(all_of(book), all_of(book))


class Twins(Asking):

    def test_alike_and_apart(self):
        book, number = with_good(3, [PLANNED], policy=[("most", "bad", 0)], plan=[PLANNED])
        book.tick(many=4)
        before = all_of(book)
        twin = book.twin()
        again = twin.twin()
        self.same((all_of(twin), all_of(again)), (before, before))
        twin.put("ann", policy=[], plan=[])
        twin.know("bob", 6)
        twin.tick(many=4)
        self.assertEqual(twin.take(*quoted(4, number, [OTHER, BAD])), "good")
        self.assertEqual(twin.ask("bob"), 3)
        self.same((all_of(book), all_of(again)), (before, before))
        behind = all_of(twin)
        self.assertEqual(book.take(*quoted(4, number, [PLANNED, BAD])), "policy")
        book.drop("ann")
        self.same((all_of(twin), all_of(again)), (behind, before))
        again.tick(many=5)
        self.same(again.asked("ann"), [])

    def test_life_and_most(self):
        twin = Book(life=2, most=1).twin().twin()
        twin.know("ann", 5)
        self.refused(TooMany, 1, twin.know, "bob", 5)
        twin.ask("ann")
        twin.tick()
        self.same(twin.asked("ann"), [1])
        twin.tick()
        self.same(twin.asked("ann"), [])


class Histories(Asking):
    """Long histories, at the bounds, beside a plain reckoning."""

    def run_history(self, chance, deeds):
        life, most = some_book(chance)
        book, plain = Book(life=life, most=most), PlainBook(life, most)
        names = NAMES[:chance.choice((2, 10))]
        machines, told, words = {}, [], collections.Counter()
        for _ in range(deeds):
            deed, places, by_names = self.some_deed(chance, names, plain, machines, told)
            came = outcome(getattr(book, deed), *places, **by_names)
            self.same(came, outcome(getattr(plain, deed), *places, **by_names))
            words[came[1] if deed == "take" else came[0] if came[0] != "told" else deed] += 1
            if deed in ("know", "drop") and came[0] == "told":
                machines[places[0]] = self.some_machine(chance, places[0], by_names)
            if chance.random() < 0.1:
                book = book.twin()
            if chance.random() < 0.2:
                self.same(all_of(book), plain.all())
        self.same(all_of(book), plain.all())
        return words

    def some_machine(self, chance, name, names):
        mixing = {word: names[word] for word in names if word in ("mixing", "many", "fixed")}
        return machine_at(chance.randint(1, 3), name=name, **mixing)

    def some_deed(self, chance, names, plain, machines, told):
        deed = chance.choice(("know", "know", "put", "drop", *["ask"] * 8, "tick", "tick", *["take"] * 12))
        is_any = deed == "know" or chance.random() < 0.1 or not plain.machines
        name = chance.choice(names if is_any else sorted(plain.machines))
        if deed == "know":
            policy = some_policy(chance, most=1, names=("boot", "disk", "fan", "zz"))
            return deed, (name, 5), {
                "mixing": some_mixing(chance), "policy": policy, "many": chance.choice((4, 4, 5)),
                "plan": chance.choice(((), plan_of(HANDS), plan_of(HANDS)[:2], [OTHER])),
            }
        if deed == "put":
            return deed, (name,), chance.choice(({"policy": []}, {"plan": []}, {"plan": plan_of(HANDS)}, {}))
        if deed == "drop" and chance.random() < 0.7 or deed == "take" and name not in machines:
            deed = "ask"
        if deed == "tick":
            return deed, (), chance.choice(({}, {"many": 1}, {"many": chance.randint(1, 4)}))
        if deed == "take":
            return deed, self.some_answer(chance, plain, machines[name], name, told), {}
        return deed, (name,), {}

    def some_answer(self, chance, plain, machine, name, told):
        """A quote and a log of this machine, an old one, or one with something otherwise."""
        if told and chance.random() < 0.1:
            return chance.choice(told)
        if chance.random() < 0.1:
            machine.start()
            while machine.state() == "going":
                machine.step()
        if chance.random() < 0.3:
            machine.late(chance.randrange(4), "disk", chance.randrange(9))
        asked = plain.asked(name) if name in plain.machines else []
        number = chance.choice([*asked, 1, 3])
        quote, log = machine.quote(number), machine.log()
        if chance.random() < 0.2:
            # A true quote of fewer rows of the same start.
            few = log[:chance.randrange(len(log) + 1)]
            many = len(machine.boards())
            return quoted(machine.starts(), number, few, name=name, many=many, mixing=machine.mixing)
        told.append((quote, chance.choice((log, tuple(log)))))
        return altered(chance, quote, log) if chance.random() < 0.4 else told[-1]

    def test_beside_a_plain_reckoning(self):
        words = collections.Counter()
        for seed, chance in seeded(300):
            with self.subTest(seed):
                words += self.run_history(chance, 80)
        for word in (*WORDS, "good", "Known", "Unknown", "TooMany", "know", "put", "drop", "ask", "tick"):
            self.assertGreater(words[word], 3, word)

    def test_four_hundred_deeds(self):
        for seed, chance in seeded(30):
            with self.subTest(seed):
                self.run_history(chance, 400)

    def test_the_same_done_to_two(self):
        for seed, chance in seeded(10):
            two = [Book(life=3), Book(life=3)]
            for _ in range(60):
                deed, places, by_names = self.some_deed(chance, NAMES[:4], PlainBook(), {}, [])
                self.same(*[outcome(getattr(book, deed), *places, **by_names) for book in two])
            self.same(*[all_of(book) for book in two])


class Promise(Asking):
    """(f) of [1]: what a good quote has, whatever the history."""

    def test_whatever_is_taken_for_good(self):
        good = 0
        for seed, chance in seeded(80):
            life = chance.choice((1, 3, 9))
            book = Book(life=life)
            book.know("ann", 5)
            book.know("bob", 6)
            asked, taken, goods, now = {}, set(), {"ann": [], "bob": []}, 0
            machine = machine_at()
            for _ in range(60):
                name = chance.choice(("ann", "ann", "bob"))
                if chance.random() < 0.4:
                    asked[book.ask(name)] = (name, now)
                    continue
                if chance.random() < 0.2:
                    book.tick()
                    now += 1
                    continue
                if chance.random() < 0.3:
                    machine.late(1, "disk", 5)
                if chance.random() < 0.1:
                    machine = machine_at(machine.starts() + 1)
                quote, log = machine.quote(chance.randint(1, len(asked) + 1)), machine.log()
                if chance.random() < 0.3:
                    quote, log = altered(chance, quote, log)
                if book.take(quote, log) == "good":
                    good += 1
                    self.check_good(quote, log, asked, taken, goods, now, life)
        self.assertGreater(good, 80)

    def check_good(self, quote, log, asked, taken, goods, now, life):
        name, start, number = quote[:3]
        self.assertEqual(name, "ann")
        self.assertEqual(quote, quote_of(5, *quote[:4]))
        self.assertEqual(asked[number][0], name)
        self.assertLess(now - asked[number][1], life)
        self.assertNotIn(number, taken)
        taken.add(number)
        for before, ahead in goods[name]:
            self.assertLessEqual(before, start)
            if before == start:
                self.assertEqual(list(log)[:len(ahead)], ahead)
        goods[name].append((start, list(log)))


if __name__ == "__main__":
    unittest.main()
