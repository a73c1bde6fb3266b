"""The words and numbers that are settled for the whole program."""

WORDS = ("load", "set", "end", "late", "reset")

NOTES = 9973

# Above every row's number by at least 2, so that a wide board's figures, each
# a row's number and 1, are never nought and never spill into the next one.
SPAN = 26500305465

FACTOR = 7919

BOARDS = 4

FIXED = 2

SIGNS = 1000000000039

FOLD = 1000003

LIFE = 9

MACHINES = 8
