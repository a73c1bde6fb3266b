"""Numbers as plain figures.

Python's own int and str refuse numbers of some thousands of figures, which a
text may have.
"""

FIGURES = "0123456789"

# As many figures as are written at once.
PART = 10 ** 18


def figures_of(number):
    """The plain figures of a number from 0."""
    parts = []
    while number >= PART:
        number, low = divmod(number, PART)
        parts.append(f"{low:018d}")
    parts.append(str(number))
    return "".join(parts[::-1])


def number_in(text):
    """The number whose plain figures these are, None where it's none's."""
    if text == "" or text[0] == "0" and text != "0":
        return None
    number = 0
    for sign in text:
        if sign not in FIGURES:
            return None
        number = number * 10 + FIGURES.index(sign)
    return number
