"""The numbers by which calls are refused."""

OUT_OF_RANGE = -1
NOT_BEGUN = -2
NO_STICK = -3
NO_PROMISE = -4
BEGUN = -5
STICK_KNOWN = -6
FULL = -7
ENDS_TOO_FAR = -8
BAD_PLACES = -9
PROMISE_KNOWN = -10
TWICE = -11
NO_RIGHT_ROW = -12
