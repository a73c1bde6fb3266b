"""Logs and quotes as texts."""

from startlog.errors import BadText
from startlog.figures import figures_of, number_in
from startlog.quotes import is_quote
from startlog.rows import is_row

# What stands for no rows, or no values.
NOTHING = "-"


def row_text(row):
    """The row as a line."""
    board, word, name, note = row
    return f"{board} {word} {name} {note}"


def row_in(line):
    """The row whose line this is, None where it's none's."""
    parts = line.split(" ")
    if len(parts) != 4:
        return None
    row = (number_in(parts[0]), parts[1], parts[2], number_in(parts[3]))
    return row if is_row(row) else None


def log_text(log):
    """The log as a text, a line for each row."""
    if len(log) == 0:
        return NOTHING
    return "\n".join([row_text(row) for row in log])


def log_in(text):
    """The list of rows whose text this is; BadText where it's none's."""
    if text == NOTHING:
        return []
    rows = [row_in(line) for line in text.split("\n")]
    if None in rows:
        raise BadText(text)
    return rows


def values_text(values):
    """The pairs (board, value) of a quote as a word."""
    if len(values) == 0:
        return NOTHING
    return ",".join([f"{board}:{figures_of(value)}" for board, value in values])


def values_in(word):
    """The pairs whose word this is, with None for what is no number."""
    if word == NOTHING:
        return ()
    pairs = []
    for part in word.split(","):
        board, colon, value = part.partition(":")
        pairs.append((number_in(board), number_in(value)))
    return tuple(pairs)


def quote_text(quote):
    """The quote as a text."""
    name, start, number, values, sign = quote
    return f"{name} {figures_of(start)} {figures_of(number)} {values_text(values)} {sign}"


def quote_in(text):
    """The quote whose text this is; BadText where it's none's."""
    parts = text.split(" ")
    if len(parts) != 5:
        raise BadText(text)
    name, start, number, values, sign = parts
    quote = (name, number_in(start), number_in(number), values_in(values), number_in(sign))
    if not is_quote(quote):
        raise BadText(text)
    return quote
