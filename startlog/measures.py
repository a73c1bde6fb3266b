"""The measure of a body, and the bodies of a measure."""

from startlog.whole import inverse
from startlog.words import NOTES

TIMES = 48271

MORE = 11


def measure(body):
    """The note of this body."""
    return (body * TIMES + MORE) % NOTES


def bodies(note, *, least=0):
    """The least body from least on whose measure is this note."""
    first = (note - MORE) * inverse(TIMES, NOTES)
    return least + (first - least) % NOTES
