"""Signs, made by folding numbers into a key."""

from startlog.words import FOLD, SIGNS


def sign_of(key, numbers):
    """The sign of these numbers by this key."""
    sign = key
    for number in numbers:
        sign = (sign * FOLD + number + 1) % SIGNS
    return sign
