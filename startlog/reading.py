"""What a wide board tells by its number alone."""

from startlog.errors import NoBoard, NoRow
from startlog.mixing import Mixing
from startlog.rows import row_with
from startlog.words import SPAN


def row_of_figure(figure, value):
    """The row (word, name, note) of one figure of the board value."""
    try:
        board, word, name, note = row_with(figure - 1, 0)
    except NoRow:
        raise NoBoard(value) from None
    # A reset isn't mixed in: it makes its board begin anew.
    if word == "reset":
        raise NoBoard(value)
    return (word, name, note)


def read(value):
    """(is_reset, list of the rows) of this wide board; NoBoard where none lead there."""
    wide = Mixing()
    rows = []
    rest = value
    while rest >= SPAN:
        rest, figure = divmod(rest, SPAN)
        rows.append(row_of_figure(figure, value))
    if rest not in (wide.begin(), wide.begin(reset=True)):
        raise NoBoard(value)
    return (rest == wide.begin(reset=True), rows[::-1])


def beginnings(value):
    """The list of all numbers on the way to this wide board, the begin first."""
    is_reset, rows = read(value)
    wide = Mixing()
    numbers = [wide.begin(reset=is_reset)]
    for word, name, note in rows:
        numbers.append(wide.mixed(numbers[-1], (0, word, name, note)))
    return numbers
