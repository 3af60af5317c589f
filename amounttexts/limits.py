"""How long numbers and their groups are, read or shown."""

MOST_IN_WHOLE = 30
MOST_DECIMALS = 15
MOST_IN_UP = 8
MOST_IN_DOWN = 9
LAST_GROUP = 3
# By a habit's kind: how many digits a group has that isn't the last one; the first one has as many at most.
OTHER_GROUPS = (3, 2)
