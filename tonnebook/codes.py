"""What a record's code says: done, or why it did nothing."""

DONE = 0
WRONG_SUM = 1
WRONG_FORM = 2
NO_USER = 3
LOW_RANK = 4
TOLD_ALREADY = 5
NO_PLACE = 6
NO_ROOM = 7
TOO_LITTLE = 8
WRONG_KIND = 9
OUT_OF_LIMITS = 10
NOT_NOW = 11
OWN_RECORD = 12
