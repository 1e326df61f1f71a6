"""The numbers by which a call is refused, and the one by which it is accepted."""

ACCEPTED = 0
OUT_OF_RANGE = -1
NO_PROFILE = -2
NO_METER = -3
FULL = -4
LOCKED = -5
NOT_COUNTING = -6
CANNOT_SHOW = -7
SAME_VERSION = -8
READ_LATER = -9
UNREAD = -10
BACKWARDS = -11
WRONG_KIND = -12
