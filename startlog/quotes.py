"""Quotes: a machine's boards beside an asked number, signed."""

from startlog.names import is_name, name_number
from startlog.rows import MOST_BOARDS
from startlog.signs import sign_of
from startlog.whole import is_from, is_within
from startlog.words import SIGNS


def is_board_value(thing):
    """Whether thing is a pair (board, value)."""
    if not isinstance(thing, tuple) or len(thing) != 2:
        return False
    return is_within(thing[0], 0, MOST_BOARDS - 1) and is_from(thing[1], 0)


def are_board_values(thing):
    """Whether thing is a tuple of pairs (board, value), their boards rising."""
    if not isinstance(thing, tuple) or not all([is_board_value(pair) for pair in thing]):
        return False
    return all([pair[0] < after[0] for pair, after in zip(thing, thing[1:])])


def is_quote(thing):
    """Whether thing is a QUOTE: (name, start, number, values, sign)."""
    if not isinstance(thing, tuple) or len(thing) != 5:
        return False
    name, start, number, values, sign = thing
    if not is_name(name) or not is_from(start, 0) or not is_from(number, 0):
        return False
    return are_board_values(values) and is_within(sign, 0, SIGNS - 1)


def quote_of(key, name, start, number, values):
    """The quote of these, signed by this key."""
    numbers = [name_number(name), start, number]
    for board, value in values:
        numbers.extend([board, value])
    return (name, start, number, tuple(values), sign_of(key, numbers))


def is_signed(key, quote):
    """Whether the quote's sign is this key's."""
    name, start, number, values, sign = quote
    return quote_of(key, name, start, number, values)[4] == sign


def values_of(quote):
    """The list of the quote's values, by boards, up to the greatest one; None where there is none."""
    told = []
    for board, value in quote[3]:
        told.extend([None] * (board - len(told)))
        told.append(value)
    return told
