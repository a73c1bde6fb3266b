"""What several files ask of whole numbers."""


def is_number(thing):
    """Whether thing is a number; True and False are none."""
    return isinstance(thing, int) and not isinstance(thing, bool)


def is_from(thing, least):
    """Whether thing is a number from least on."""
    return is_number(thing) and thing >= least


def is_within(thing, least, greatest):
    """Whether thing is a number from least to greatest."""
    return is_number(thing) and least <= thing <= greatest


def common_divisor(number, other):
    """The greatest divisor that both have in common."""
    while other != 0:
        number, other = other, number % other
    return number


def inverse(number, span):
    """The one below span that, times number, leaves 1 by span.

    Both have no divisor but 1 in common, and span is above 1.
    """
    high, low = span, number % span
    before, found = 0, 1
    # found times number leaves low by span, all along.
    while low > 1:
        times = high // low
        high, low = low, high - times * low
        before, found = found, before - times * found
    return found % span
