"""Whether a log fits a policy, and which rule it breaks where."""

from startlog.standings import is_broken_by, is_kept_at, number_behind


def place_broken(rule, log):
    """The place of the first row by which the log breaks the rule, None where it keeps it."""
    number = 0
    for place, row in enumerate(log):
        if is_broken_by(rule, number, row):
            return place
        number = number_behind(rule, number, row)
    # What is missing would have to stand behind all rows.
    return None if is_kept_at(rule, number) else len(log)


def verdict(policy, log):
    """("fits",), or ("unfit", k, place): the first rule that the log breaks, and where."""
    for k, rule in enumerate(policy):
        place = place_broken(rule, log)
        if place is not None:
            return ("unfit", k, place)
    return ("fits",)


def fits(policy, log):
    """Whether the log keeps all rules of the policy."""
    return verdict(policy, log) == ("fits",)
