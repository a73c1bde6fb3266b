"""Names, and the numbers that stand for them."""

from startlog.errors import NoName

LETTERS = "abcdefghijklmnopqrstuvwxyz"

LONGEST = 4

# One above the letters: no letter stands for 0, so that names of unlike
# lengths have unlike numbers.
BASE = 27


def is_name(thing):
    """Whether thing is a text of 1 to 4 letters a to z."""
    if not isinstance(thing, str) or not 1 <= len(thing) <= LONGEST:
        return False
    return all([letter in LETTERS for letter in thing])


def name_number(name):
    """The name's letters as figures of base 27, the first one the highest."""
    number = 0
    for letter in name:
        number = number * BASE + LETTERS.index(letter) + 1
    return number


def name_of(number):
    """The name of this number; NoName where none has it."""
    name = ""
    rest = number
    while rest > 0 and len(name) < LONGEST:
        rest, figure = divmod(rest, BASE)
        if figure == 0:
            raise NoName(number)
        name = LETTERS[figure - 1] + name
    if rest != 0 or name == "":
        raise NoName(number)
    return name
