"""The orders of a log's rows that a policy leaves free."""


def rule_binds(rule, name, other):
    """Whether the rule asks for an order of neighbours of these names."""
    if rule[0] == "next":
        return name in rule[1:] or other in rule[1:]
    if rule[0] not in ("ahead", "never"):
        return False
    # To such a rule rows of one name are alike, whichever stands first.
    return name != other and rule[1:] in ((name, other), (other, name))


def binds(policy, row, other):
    """Whether the policy forbids to exchange these two rows as neighbours."""
    return any([rule_binds(rule, row[2], other[2]) for rule in policy])


def exchanged(policy, rows):
    """What comes of this tuple of rows by one exchange of neighbours that aren't bound."""
    return [
        rows[:place] + (rows[place + 1], rows[place]) + rows[place + 2:]
        for place in range(len(rows) - 1) if not binds(policy, rows[place], rows[place + 1])
    ]


def orders(policy, log):
    """The rising list of all logs that come of this one by such exchanges, itself too."""
    found = {tuple(log): True}
    left = [tuple(log)]
    while len(left) > 0:
        reached = exchanged(policy, left.pop())
        for rows in reached:
            if rows not in found:
                found[rows] = True
                left.append(rows)
    return [list(rows) for rows in sorted(list(found))]
