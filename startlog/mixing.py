"""How rows are mixed into a board's number."""

from startlog.errors import BadMixing
from startlog.rows import row_number
from startlog.whole import common_divisor, inverse, is_number
from startlog.words import FACTOR, SPAN

LEAST_WIDTH = 3

GREATEST = 10 ** 6


def is_width(thing):
    """Whether a mixing may have this width; None is that of a wide one."""
    return thing is None or is_number(thing) and LEAST_WIDTH <= thing <= GREATEST


def is_factor(thing, width):
    """Whether a mixing of this width may have this factor."""
    if not is_number(thing) or not 1 <= thing <= GREATEST:
        return False
    return width is None or common_divisor(thing, width) == 1


class Mixing:
    """A wide mixing, which loses nothing, or a narrow one, of numbers below its width."""

    def __init__(self, width=None, *, factor=FACTOR):
        if not is_width(width):
            raise BadMixing("width")
        if not is_factor(factor, width):
            raise BadMixing("factor")
        self.width = width
        self.factor = factor

    def begin(self, *, reset=False):
        """The number of a board ahead of all notes."""
        return 2 if reset else 1

    def mixed(self, value, row):
        """The number of a board of this value behind this row."""
        more = row_number(row) + 1
        if self.width is None:
            return value * SPAN + more
        return (value * self.factor + more) % self.width

    def unmixed(self, value, row):
        """The number that this row leads to value, None where there is none."""
        left = value - row_number(row) - 1
        if self.width is None:
            return left // SPAN if left >= 0 and left % SPAN == 0 else None
        if not 0 <= value < self.width:
            return None
        return left * inverse(self.factor, self.width) % self.width

    def alike(self, row, other):
        """Whether both rows lead each number to the same one."""
        apart = row_number(row) - row_number(other)
        if self.width is None:
            return apart == 0
        return apart % self.width == 0

    def __eq__(self, other):
        return isinstance(other, Mixing) and self.width == other.width and self.factor == other.factor

    def __repr__(self):
        told = []
        if self.width is not None:
            told.append(str(self.width))
        if self.factor != FACTOR:
            told.append(f"factor={self.factor}")
        return f"Mixing({', '.join(told)})"

    def __str__(self):
        return repr(self)
