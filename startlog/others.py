"""Other logs that lead board 0 to the same number."""


def behind_rows(mixing, rows):
    """Board 0's number behind these rows."""
    value = mixing.begin()
    for row in rows:
        value = mixing.mixed(value, row)
    return value


def one_row_ahead(mixing, numbers, some):
    """The numbers that a row of some leads to one of these numbers."""
    ahead = {}
    for number in numbers:
        for row in some:
            before = mixing.unmixed(number, row)
            if before is not None:
                ahead[before] = True
    return ahead


def ways_to(mixing, value, some, many):
    """The numbers that lead to value by 0 rows of some, by 1, and so on to many."""
    last = {value: True}
    ways = [last]
    for left in range(many):
        last = one_row_ahead(mixing, last, some)
        ways.append(last)
    return ways


def first_places(mixing, value, some, ways, many):
    """The first places in some, so many, that lead from value to the ways' end; None where none do."""
    if value not in ways[many]:
        return None
    places = []
    for left in reversed(range(many)):
        led = [mixing.mixed(value, row) for row in some]
        place = [number in ways[left] for number in led].index(True)
        places.append(place)
        value = led[place]
    return places


def places_parting(mixing, log, some, ways, place):
    """The first places in some of a log as long that parts from log just at this place; None where none do."""
    shared = log[:place]
    if not all([row in some for row in shared]):
        return None
    value = behind_rows(mixing, shared)
    for other, row in enumerate(some):
        if row != log[place]:
            rest = first_places(mixing, mixing.mixed(value, row), some, ways, len(log) - place - 1)
            if rest is not None:
                return [some.index(one) for one in shared] + [other] + rest
    return None


def other_log(mixing, log, some):
    """The first other log of rows of some, at most as long, that leads board 0 to the same number."""
    ways = ways_to(mixing, behind_rows(mixing, log), some, len(log))
    for many in range(len(log)):
        places = first_places(mixing, mixing.begin(), some, ways, many)
        if places is not None:
            return [some[place] for place in places]
    # All that are as long part from the log somewhere, so the first is among the first by parting places.
    parting = [places_parting(mixing, log, some, ways, place) for place in range(len(log))]
    found = [places for places in parting if places is not None]
    return [some[place] for place in min(found)] if found else None


def counts_behind(mixing, counts, some, led):
    """How many lists lead to each number by one place more; led keeps, by numbers, where some leads them."""
    behind = {}
    for number in counts:
        if number not in led:
            led[number] = [mixing.mixed(number, row) for row in some]
        for to in led[number]:
            behind[to] = behind.get(to, 0) + counts[number]
    return behind


def count_logs(mixing, value, some, many):
    """How many lists of just so many places in some lead board 0 from its begin to value."""
    led = {}
    counts = {mixing.begin(): 1}
    for left in range(many):
        counts = counts_behind(mixing, counts, some, led)
    return counts.get(value, 0)


def hidden(mixing, some):
    """The rising pairs of places in some whose rows are unlike, but alike to this mixing."""
    return [
        (place, other)
        for place in range(len(some)) for other in range(place + 1, len(some))
        if some[place] != some[other] and mixing.alike(some[place], some[other])
    ]
