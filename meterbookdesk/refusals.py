"""The numbers that refused calls answer, and the one of a call that is done."""

DONE = 0
OUT_OF_RANGE = -1
BEFORE_CLOCK = -3
WRONG_PARTNER = -4
FULL = -5
NOT_LOOSE = -6
TOO_FINE = -7
NO_LIKE_TABLE = -8
NO_TALLIES = -10
