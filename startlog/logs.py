"""Which logs can stand."""

from startlog.rows import is_row
from startlog.words import BOARDS, FIXED

# Words of rows that are noted ahead of a machine's being up.
STARTING = ("load", "set", "end")


def may_stand(row, is_behind_end, many, fixed):
    """Whether this thing may stand in a log behind an end, or ahead of one."""
    if not is_row(row) or row[0] >= many:
        return False
    if row[1] == "reset" and row[0] < fixed:
        return False
    return (row[1] in STARTING) != is_behind_end


def fault(log, *, many=BOARDS, fixed=FIXED):
    """The place of the first row by which the log can't stand, None where it can."""
    is_behind_end = False
    for place, row in enumerate(log):
        if not may_stand(row, is_behind_end, many, fixed):
            return place
        if row[1] == "end":
            is_behind_end = True
    return None


def is_log(thing, *, many=BOARDS, fixed=FIXED):
    """Whether thing is a log that can stand."""
    return isinstance(thing, list) and fault(thing, many=many, fixed=fixed) is None


def is_up(log):
    """Whether an end is in the log."""
    return "end" in [row[1] for row in log]
