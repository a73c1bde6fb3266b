"""Rows of a log, and the numbers that stand for them on a board."""

from startlog.errors import NoName, NoRow
from startlog.names import is_name, name_number, name_of
from startlog.whole import is_number
from startlog.words import NOTES, WORDS

MOST_BOARDS = 8

# Words of rows that tell of no body, and so have no note but 0.
WITHOUT_BODY = ("end", "reset")


def note_fits(word, note):
    """Whether a row of this word may have this note."""
    return note == 0 or word not in WITHOUT_BODY


def is_row(thing):
    """Whether thing is a ROW: (board, word, name, note)."""
    if not isinstance(thing, tuple) or len(thing) != 4:
        return False
    board, word, name, note = thing
    if not is_number(board) or not 0 <= board < MOST_BOARDS:
        return False
    if word not in WORDS or not is_name(name):
        return False
    return is_number(note) and 0 <= note < NOTES and note_fits(word, note)


def row_number(row):
    """The row's number, the same on every board."""
    board, word, name, note = row
    return (name_number(name) * len(WORDS) + WORDS.index(word)) * NOTES + note


def row_with(number, board):
    """The row of this number on this board; NoRow where none has it."""
    head, note = divmod(number, NOTES)
    name_part, place = divmod(head, len(WORDS))
    # name_of is told of numbers from 0 alone.
    if number < 0 or not note_fits(WORDS[place], note):
        raise NoRow(number)
    try:
        return (board, WORDS[place], name_of(name_part), note)
    except NoName:
        raise NoRow(number) from None
