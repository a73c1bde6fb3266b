"""Logs and quotes as texts [16]."""

import random
import re
import unittest

from startlog.errors import BadText
from startlog.quotes import is_quote
from startlog.rows import is_row
from startlog.texts import log_in, log_text, quote_in, quote_text
from tests.samples import NAMES, WORDS, Asking, rows_of, some_rows, standing

SIGNS = 1000000000039

# All signs of texts.
ALL_SIGNS = [chr(code) for code in range(32, 127) if chr(code) != "%"] + ["\n"]

# Those that may matter, and others, for longer texts.
SOME_SIGNS = [" ", "\n", "-", ",", ":", "0", "1", "9", "a", "z", "A", "~", "+", "_", ".", "'"]

LOGS = (
    [], [(0, "load", "boot", 17)], [(7, "end", "a", 0), (3, "late", "zzzz", 9972)], [(2, "reset", "fan", 0)] * 2,
    [(0, "set", "a", 0), (1, "end", "b", 0), (0, "end", "b", 0), (0, "load", "load", 100)],
)

QUOTES = (
    ("ann", 3, 7, ((0, 1), (2, 55)), 991), ("a", 0, 0, (), 0), ("zzzz", 10, 100, ((7, 0),), SIGNS - 1),
    ("fan", 40, 10 ** 6, tuple((board, board) for board in range(8)), 10), ("set", 1, 2, ((0, 10), (1, 11)), 5),
)


def row_is_so(line):
    """Whether a line is a row's own, by [5] and [16]."""
    figures = "(0|[1-9][0-9]*)"
    found = re.fullmatch(f"[0-7] (load|set|end|late|reset) [a-z]{{1,4}} {figures}", line)
    if not found:
        return False
    return int(found[2]) < (1 if found[1] in ("end", "reset") else 9973)


def log_is_so(text):
    """Whether a text is a log's own."""
    return text == "-" or all(row_is_so(line) for line in text.split("\n"))


def quote_is_so(text):
    """Whether a text is a quote's own."""
    figures = "(?:0|[1-9][0-9]*)"
    pair = f"[0-7]:{figures}"
    found = re.fullmatch(f"[a-z]{{1,4}} {figures} {figures} (-|{pair}(?:,{pair})*) ({figures})", text)
    if not found:
        return False
    boards = [] if found[1] == "-" else [pair[0] for pair in found[1].split(",")]
    return boards == sorted(set(boards)) and int(found[2]) < SIGNS


def one_off(text, signs):
    """All texts with one sign otherwise, more or fewer, at each place."""
    for place in range(len(text) + 1):
        for sign in signs:
            yield text[:place] + sign + text[place:]
            if place < len(text) and text[place] != sign:
                yield text[:place] + sign + text[place + 1:]
        if place < len(text):
            yield text[:place] + text[place + 1:]


class Texts(Asking):

    def refused_text(self, asked, text):
        with self.assertRaises(BadText) as caught:
            asked(text)
        self.assertEqual(caught.exception.what, text)
        self.assertIs(type(caught.exception), BadText)


class LogTexts(Texts):

    def check(self, log, text):
        """Written, and read back."""
        self.same(self.told(log_text, log), text)
        self.same(self.told(log_text, log=tuple(log)), text)
        self.same(self.told(log_in, text), log)
        self.same(self.told(log_in, text=text), log)
        self.own(log_in, text)

    def test_by_hand(self):
        self.check([], "-")
        self.check([(0, "load", "boot", 17)], "0 load boot 17")
        self.check([(7, "end", "a", 0)], "7 end a 0")
        self.check([(0, "set", "zzzz", 9972), (3, "reset", "fan", 0)], "0 set zzzz 9972\n3 reset fan 0")
        self.check([(1, "late", "late", 0)] * 3, "1 late late 0\n1 late late 0\n1 late late 0")

    def test_rows_of_all_kinds(self):
        for row in rows_of(WORDS, boards=range(8)):
            self.check([row], " ".join(map(str, row)))

    def test_logs_that_stand_and_that_do_not(self):
        for seed in range(30):
            for log in (standing(seed), some_rows(seed, seed * 3, WORDS, boards=8)):
                self.check(log, "\n".join(" ".join(map(str, row)) for row in log) or "-")

    def test_each_text_one_off(self):
        for log in LOGS:
            text = log_text(log)
            for other in one_off(text, ALL_SIGNS):
                if log_is_so(other):
                    rows = log_in(other)
                    self.assertTrue(type(rows) is list and all(is_row(row) for row in rows))
                    self.assertEqual(log_text(rows), other)
                else:
                    self.refused_text(log_in, other)

    def test_longer_texts_one_off(self):
        text = log_text(standing(1, rows=2))
        for other in one_off(text, SOME_SIGNS):
            if log_is_so(other):
                self.assertEqual(log_text(log_in(other)), other)
            else:
                self.refused_text(log_in, other)

    def test_no_texts(self):
        row = "0 load boot 17"
        for text in (
            "", " ", "\n", "--", "-\n", "\n-", "- ", " -", "-\n-", f"-\n{row}", f"{row}\n-", f"{row}\n", f"\n{row}",
            f"{row}\n\n{row}", f" {row}", f"{row} ", f"{row} \n{row}", f"{row}\n {row}", f"{row},{row}", f"{row} {row}",
            "0  load boot 17", "0 load  boot 17", "0 load boot", "load boot 17", "0 load boot 17 0", "8 load boot 17",
            "00 load boot 17", "-1 load boot 17", "+0 load boot 17", "0 load boot 017", "0 load boot +17",
            "0 load boot -0", "0 load boot 9973", "0 load boot 17.0", "0 load boot 1_7", "0 end boot 1",
            "0 reset boot 1",
            "0 load Boot 17", "0 load boots 17", "0 Load boot 17", "0 lo boot 17", "0 load boot x", "0 load  17",
            "0\tload\tboot\t17", "0 load boot " + "1" * 5000, "1" * 7900 + " load boot 1", "0 " * 4000, "\n" * 8000,
        ):
            self.assertFalse(log_is_so(text) if len(text) < 4000 else False)
            self.refused(BadText, text, log_in, text)
            self.refused(BadText, text, log_in, text=text)

    def test_by_signs_beyond(self):
        for text in ("0 load boot \u0661", "\u0660 load boot 1", "0 load b\u00f6t 1", "0 load boot 1\r",
                     "0 load boot \u00b2"):
            self.refused(BadText, text, log_in, text)


class QuoteTexts(Texts):

    def check(self, quote, text):
        """Written, and read back."""
        self.same(self.told(quote_text, quote), text)
        self.same(self.told(quote_text, quote=quote), text)
        self.same(self.told(quote_in, text), quote)
        self.same(self.told(quote_in, text=text), quote)

    def test_by_hand(self):
        self.check(("ann", 3, 7, ((0, 1), (2, 55)), 991), "ann 3 7 0:1,2:55 991")
        self.check(("a", 0, 0, (), 0), "a 0 0 - 0")
        self.check(("zzzz", 40, 10 ** 6, ((7, 0),), SIGNS - 1), "zzzz 40 1000000 7:0 1000000000038")

    def test_long_numbers(self):
        for number in (10 ** 17, 10 ** 18 - 1, 10 ** 18, 10 ** 18 + 5, 10 ** 36, 10 ** 36 - 1, 10 ** 699 + 7,
                       10 ** 700 - 1, 10 ** 720, 123456789 * 10 ** 27 + 1):
            self.check(("ann", number, 7, (), 5), f"ann {number} 7 - 5")
            self.check(("ann", 3, number, ((0, number), (1, 0)), 5), f"ann 3 {number} 0:{number},1:0 5")

    def test_numbers_longer_than_python_writes(self):
        text = f"ann 3 7 0:{'9' * 7000} 5"
        self.same(quote_in(text)[3][0][1] == 10 ** 7000 - 1, True)
        self.assertEqual(quote_text(quote_in(text)), text)
        text = f"ann 1{'0' * 5000} 7 - 5"
        self.assertEqual(quote_text(quote_in(text)), text)
        self.refused(BadText, f"ann 3 7 - {'9' * 7000}", quote_in, f"ann 3 7 - {'9' * 7000}")

    def test_quotes_of_all_kinds(self):
        chance = random.Random(1)
        for _ in range(200):
            boards = [board for board in range(8) if chance.random() < 0.5]
            values = tuple((board, chance.choice((0, 1, 10 ** 690, chance.randrange(10 ** 9)))) for board in boards)
            start, number, sign = chance.randrange(41), chance.randrange(10 ** 6), chance.randrange(SIGNS)
            quote = (chance.choice(NAMES), start, number, values, sign)
            pairs = ",".join(f"{board}:{value}" for board, value in values) or "-"
            self.check(quote, f"{quote[0]} {quote[1]} {quote[2]} {pairs} {quote[4]}")

    def test_each_text_one_off(self):
        for quote in QUOTES:
            text = quote_text(quote)
            self.assertTrue(quote_is_so(text))
            for other in one_off(text, ALL_SIGNS):
                if quote_is_so(other):
                    self.assertTrue(is_quote(quote_in(other)))
                    self.assertEqual(quote_text(quote_in(other)), other)
                else:
                    self.refused_text(quote_in, other)

    def test_no_texts(self):
        for text in (
            "", " ", "-", "\n", "    ", "ann 3 7 0:1,2:55", "ann 3 7 991", "ann 3 7  991", "3 7 0:1 991",
            "ann 3 7 0:1,2:55 991 ", " ann 3 7 0:1,2:55 991", "ann 3 7 0:1,2:55 991\n", "ann  3 7 0:1 991",
            "ann 3 7 0:1, 2:55 991", "ann 3 7 0:1,,2:55 991", "ann 3 7 ,0:1 991", "ann 3 7 0:1, 991", "ann 3 7 0 991",
            "ann 3 7 0: 991", "ann 3 7 :1 991", "ann 3 7 0:1:2 991", "ann 3 7 8:1 991", "ann 3 7 00:1 991",
            "ann 3 7 0:01 991", "ann 3 7 2:1,0:1 991", "ann 3 7 0:1,0:1 991", "ann 3 7 -,0:1 991", "ann 3 7 -- 991",
            "ann 03 7 - 991", "ann 3 07 - 991", "ann 3 7 - 0991", "ann -3 7 - 991", "ann 3 -7 - 991", "ann 3 7 - -1",
            "ann 3 7 - 1000000000039", "ann 3 7 - -", "Ann 3 7 - 991", "annie 3 7 - 991", " 3 7 - 991", "ann - 7 - 991",
            "ann\n3 7 - 991", "ann 3 7 0:1\n1:2 991", "ann 3 7 () 991", "ann 3 7 0:-1 991", "ann 3 7 0:+1 991",
        ):
            self.assertFalse(quote_is_so(text), text)
            self.refused(BadText, text, quote_in, text)
            self.refused(BadText, text, quote_in, text=text)

    def test_a_log_is_no_quote_and_no_quote_a_log(self):
        for log in LOGS:
            self.refused_text(quote_in, log_text(log))
        for quote in QUOTES:
            self.refused_text(log_in, quote_text(quote))


if __name__ == "__main__":
    unittest.main()
