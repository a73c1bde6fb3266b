"""Rows of deeds, done to a book one behind the other."""

from startlog.errors import BadDeed
from startlog.whole import is_from, is_number

# By words: how many things a deed has behind its word.
DEEDS = {"know": 2, "drop": 1, "ask": 1, "tick": 1, "take": 2}


def is_deed(thing):
    """Whether thing is a deed."""
    if not isinstance(thing, tuple) or len(thing) == 0 or not isinstance(thing[0], str):
        return False
    word = thing[0]
    if word not in DEEDS or len(thing) != 1 + DEEDS[word]:
        return False
    if word == "take":
        return True
    if word == "tick":
        return is_from(thing[1], 1)
    return isinstance(thing[1], str) and (word != "know" or is_number(thing[2]))


def refuse_no_deeds(deeds):
    """BadDeed of the first thing that is no deed."""
    for place, deed in enumerate(deeds):
        if not is_deed(deed):
            raise BadDeed(place)


def told_by(book, deed):
    """What the book tells of this deed, which is done."""
    word = deed[0]
    if word == "know":
        return book.know(deed[1], deed[2])
    if word == "drop":
        return book.drop(deed[1])
    if word == "ask":
        return book.ask(deed[1])
    if word == "tick":
        return book.tick(many=deed[1])
    return book.take(deed[1], deed[2])


def do(book, deeds):
    """The list of what these deeds tell; where one is refused, those ahead of it stay done."""
    refuse_no_deeds(deeds)
    told = []
    done = 0
    book.is_busy = True
    book.noted.append(("in", len(deeds)))
    try:
        for deed in deeds:
            told.append(told_by(book, deed))
            book.noted.append(deed[0])
            done += 1
    finally:
        book.noted.append(("out", done))
        book.is_busy = False
    return told
