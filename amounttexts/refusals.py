"""The numbers that refuse a call."""

OUT_OF_RANGE = -1
NO_SUCH = -3
CANNOT_BE = -4
TAKEN = -5
ALL_TOLD = -5
NO_VALUE = -5
CANNOT_TELL = -6
SEVERAL = -7
UNLIKE_COINS = -8
FAULT = -1000
