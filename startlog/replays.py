"""What boards a log leads to, and what these show of it."""

from startlog.errors import BadLog
from startlog.logs import fault
from startlog.words import BOARDS, FIXED


def behind_row(mixing, value, row):
    """The number of the row's board, of this value ahead of the row, behind it."""
    if row[1] == "reset":
        return mixing.begin(reset=True)
    return mixing.mixed(value, row)


def boards_behind(mixing, log, many):
    """The boards' numbers behind a log that can stand."""
    numbers = [mixing.begin()] * many
    for row in log:
        numbers[row[0]] = behind_row(mixing, numbers[row[0]], row)
    return numbers


def refuse_fault(log, many, fixed):
    """BadLog of the first row by which the log can't stand."""
    place = fault(log, many=many, fixed=fixed)
    if place is not None:
        raise BadLog(place)


def replay(mixing, log, *, many=BOARDS, fixed=FIXED):
    """The list of the boards' numbers behind the log; BadLog where it can't stand."""
    refuse_fault(log, many, fixed)
    return boards_behind(mixing, log, many)


def replays(mixing, log, *, many=BOARDS, fixed=FIXED):
    """The lists of the boards' numbers, ahead of all and behind each row."""
    refuse_fault(log, many, fixed)
    told = [boards_behind(mixing, [], many)]
    for row in log:
        numbers = list(told[-1])
        numbers[row[0]] = behind_row(mixing, numbers[row[0]], row)
        told.append(numbers)
    return told


def leads_to(mixing, log, values, *, many=BOARDS, fixed=FIXED):
    """Whether the log can stand and its replay is the list values."""
    if fault(log, many=many, fixed=fixed) is not None:
        return False
    return boards_behind(mixing, log, many) == list(values)


def shown_rows(log, *, many=BOARDS, fixed=FIXED):
    """By boards, (is_reset, list of (word, name, note)): the log's rows behind its last reset."""
    refuse_fault(log, many, fixed)
    shown = [(False, []) for board in range(many)]
    for board, word, name, note in log:
        if word == "reset":
            shown[board] = (True, [])
        else:
            shown[board][1].append((word, name, note))
    return shown
