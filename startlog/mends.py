"""Steps of a log, those that mend it, and where it parts from its boards."""

from startlog.errors import BadStep
from startlog.reading import read
from startlog.replays import leads_to, shown_rows
from startlog.rows import is_row
from startlog.whole import is_within
from startlog.words import BOARDS, FIXED


def is_step(log, step):
    """Whether this thing is a step of the log."""
    if not isinstance(step, tuple) or len(step) not in (2, 3):
        return False
    word, place = step[:2]
    last = len(log) - 1
    if len(step) == 2:
        return word == "out" and is_within(place, 0, last)
    if word == "put":
        return is_within(place, 0, len(log)) and is_row(step[2])
    if not is_within(place, 0, last):
        return False
    if word == "turn":
        return is_row(step[2]) and step[2] != log[place]
    return word == "move" and is_within(step[2], 0, last) and step[2] != place


def mended(log, step):
    """The log behind this step; BadStep where it's none of it."""
    if not is_step(log, step):
        raise BadStep(step)
    rows = list(log)
    word, place = step[:2]
    if word == "put":
        rows.insert(place, step[2])
    elif word == "turn":
        rows[place] = step[2]
    else:
        row = rows.pop(place)
        if word == "move":
            rows.insert(step[2], row)
    return rows


def all_steps(log, some):
    """All steps of the log whose rows are of some: out, put, turn, move."""
    places = list(range(len(log)))
    outs = [("out", place) for place in places]
    puts = [("put", place, row) for place in [*places, len(log)] for row in some]
    turns = [("turn", place, row) for place in places for row in some if row != log[place]]
    moves = [("move", place, to) for place in places for to in places if to != place]
    return outs + puts + turns + moves


def mends(mixing, log, values, some, *, many=BOARDS, fixed=FIXED):
    """The list of all steps, rows being of some, behind which the log leads to values."""
    return [
        step for step in all_steps(log, some)
        if leads_to(mixing, mended(log, step), values, many=many, fixed=fixed)
    ]


def rows_alike(shown, own):
    """How many rows both boards have alike from the first on, -1 where just one is reset."""
    if shown[0] != own[0]:
        return -1
    alike = 0
    for row, other in zip(shown[1], own[1]):
        if row != other:
            break
        alike += 1
    return alike


def first_parted(mixing, log, values, *, many=BOARDS, fixed=FIXED):
    """(board, rows alike) of the least board that the log leads elsewhere, None where it leads to values."""
    boards = [read(value) for value in values]
    # A wide board shows all of its rows, so these are compared in place of numbers.
    shown = shown_rows(log, many=many, fixed=fixed)
    for board, (told, own) in enumerate(zip(shown, boards)):
        if told != own:
            return (board, rows_alike(told, own))
    return None
