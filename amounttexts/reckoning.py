"""The calls that ask of values alone, whatever the object holds. Each gives its answer as a list."""

from amounttexts.ratio import divided, is_less, minus, plus, times, value_of
from amounttexts.refusals import BY_NOUGHT, NO_VALUE, TOO_MANY_DECIMALS
from amounttexts.rows import row, value_row
from amounttexts.signs import ZERO, digits_of

SUM = 0
DIFFERENCE = 1
PRODUCT = 2
QUOTIENT = 3
LESSER = 4

MOST_EXPANDED = 60


# The second value isn't 0 if they are to be divided.
def reckoned(what, one, two):
    if what == SUM:
        return plus(one, two)
    if what == DIFFERENCE:
        return minus(one, two)
    if what == PRODUCT:
        return times(one, two)
    if what == QUOTIENT:
        return divided(one, two)
    if what == LESSER:
        return one if is_less(one, two) else two
    return two if is_less(one, two) else one


def reckon(what, texts):
    one = value_of(texts[0])
    two = value_of(texts[1])
    if one is None or two is None:
        return [NO_VALUE]
    if what == QUOTIENT and two[0] == 0:
        return [BY_NOUGHT]
    return [0] + value_row(reckoned(what, one, two))


def expand(text):
    value = value_of(text)
    if value is None:
        return [NO_VALUE]
    upper = abs(value[0])
    lower = value[1]
    decimals = []
    # What is still to be divided, ahead of the first decimal and behind each one.
    rests = [upper % lower]
    while rests[-1] != 0 and rests[-1] not in rests[:-1]:
        if len(decimals) == MOST_EXPANDED:
            return [TOO_MANY_DECIMALS]
        decimals.append(ZERO + rests[-1] * 10 // lower)
        rests.append(rests[-1] * 10 % lower)
    # From equal rests the same decimals come, so those behind a rest's first place come again behind its second.
    once = len(decimals) if rests[-1] == 0 else rests.index(rests[-1])
    return [0] + row(digits_of(upper // lower)) + row(decimals[:once]) + row(decimals[once:])
