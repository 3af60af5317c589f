"""Numbers by a habit, read byte by byte.

A state is how far one way of reading a number has come. Each has two methods: beyond gives the states one byte
further on, said gives the number (a pair, not yet in lowest terms) if it can end here, else None. No state is a
dead end: from each of them some bytes lead to a number. So a beginning can stand just if a state is left for it.
"""

from amounttexts.book import FRACTIONS, NOTHING_AHEAD, NOTHING_BEHIND, PERCENTS, SCALES, ZEROS_IN_FRONT
from amounttexts.limits import LAST_GROUP, MOST_DECIMALS, MOST_IN_DOWN, MOST_IN_UP, MOST_IN_WHOLE, OTHER_GROUPS
from amounttexts.signs import BLANK, PERCENT, SLASH, ZERO, is_digit

UNITS_OF_SCALES = {107: 1000, 109: 1000000, 98: 1000000000}


# No byte of the number has come.
class Unbegun:
    def beyond(self, habit, byte):
        if is_digit(byte):
            return [Whole(byte - ZERO, 1, 1, False)] + Up(None, 0, 0).beyond(habit, byte)
        if byte == habit.point and habit.extras & NOTHING_AHEAD != 0:
            return [Decimals(0, 1, 0, False)]
        return []

    def said(self, habit):
        return None


# Within a whole part: its number, how many digits it has, how many its last group has, and if it is in groups.
class Whole:
    def __init__(self, number, digits, run, in_groups):
        self.number = number
        self.digits = digits
        self.run = run
        self.in_groups = in_groups

    def can_end(self):
        return not self.in_groups or self.run == LAST_GROUP

    # Whether more digits may come, in this group or another: as long as the number is 0, a 0 is in front of them.
    def can_grow(self, habit):
        return self.number != 0 or habit.extras & ZEROS_IN_FRONT != 0

    def takes_digit(self, habit):
        if self.in_groups:
            return self.run < LAST_GROUP
        most = LAST_GROUP if habit.must == 1 else MOST_IN_WHOLE
        return self.digits < most and self.can_grow(habit)

    def takes_group(self, habit):
        # Room for a last group must be left, or the whole part could never end.
        if habit.group == 0 or self.digits + LAST_GROUP > MOST_IN_WHOLE or not self.can_grow(habit):
            return False
        size = OTHER_GROUPS[habit.kind]
        return self.run == size if self.in_groups else self.run <= size

    def beyond(self, habit, byte):
        if is_digit(byte):
            if not self.takes_digit(habit):
                return []
            return [Whole(self.number * 10 + byte - ZERO, self.digits + 1, self.run + 1, self.in_groups)]
        states = []
        if byte == habit.group and self.takes_group(habit):
            states.append(Whole(self.number, self.digits, 0, True))
        if self.can_end():
            if byte == habit.point:
                states.append(Decimals(self.number, 1, 0, True))
            if byte == BLANK and habit.extras & FRACTIONS != 0:
                states.append(Up(self.number, 0, 0))
            states.extend(closed(habit, byte, (self.number, 1)))
        return states

    def said(self, habit):
        if self.can_end():
            return (self.number, 1)
        return None


# Behind the point: all digits so far as one number, of how many parts of 1, how many are decimals, and whether a
# whole part is ahead.
class Decimals:
    def __init__(self, number, parts, digits, has_whole):
        self.number = number
        self.parts = parts
        self.digits = digits
        self.has_whole = has_whole

    def beyond(self, habit, byte):
        if is_digit(byte):
            if self.digits == MOST_DECIMALS:
                return []
            return [Decimals(self.number * 10 + byte - ZERO, self.parts * 10, self.digits + 1, self.has_whole)]
        pair = self.said(habit)
        if pair is None:
            return []
        return closed(habit, byte, pair)

    def said(self, habit):
        if self.digits == 0 and not (self.has_whole and habit.extras & NOTHING_BEHIND != 0):
            return None
        return (self.number, self.parts)


# Within a fraction's upper number: the whole part ahead (None if there is none), the number, its digits.
class Up:
    def __init__(self, whole, number, digits):
        self.whole = whole
        self.number = number
        self.digits = digits

    def beyond(self, habit, byte):
        if habit.extras & FRACTIONS == 0:
            return []
        if byte == SLASH and self.digits > 0:
            return [Down(self.whole, self.number, 0, 0)]
        if takes_fraction_digit(byte, self.digits, MOST_IN_UP):
            return [Up(self.whole, self.number * 10 + byte - ZERO, self.digits + 1)]
        return []

    def said(self, habit):
        return None


# Within a fraction's lower number: the whole part ahead (None if there is none), the upper number, this one, and its
# digits. As it may have one digit more than the upper number, it can always become the greater one.
class Down:
    def __init__(self, whole, upper, number, digits):
        self.whole = whole
        self.upper = upper
        self.number = number
        self.digits = digits

    def beyond(self, habit, byte):
        if takes_fraction_digit(byte, self.digits, MOST_IN_DOWN):
            return [Down(self.whole, self.upper, self.number * 10 + byte - ZERO, self.digits + 1)]
        return []

    def said(self, habit):
        if self.digits == 0:
            return None
        if self.whole is None:
            return (self.upper, self.number)
        if self.upper >= self.number:
            return None
        return (self.whole * self.number + self.upper, self.number)


# Behind a scale or a percent: nothing of the number may follow.
class Closed:
    def __init__(self, pair):
        self.pair = pair

    def beyond(self, habit, byte):
        return []

    def said(self, habit):
        return self.pair


# Whether a number of a fraction with so many digits takes this byte as one more.
def takes_fraction_digit(byte, digits, most):
    return is_digit(byte) and digits < most and (digits > 0 or byte != ZERO)


# The states behind a decimal that says this pair, if the byte is a scale or a percent that is let.
def closed(habit, byte, pair):
    if byte in UNITS_OF_SCALES and habit.extras & SCALES != 0:
        return [Closed((pair[0] * UNITS_OF_SCALES[byte], pair[1]))]
    if byte == PERCENT and habit.extras & PERCENTS != 0:
        return [Closed((pair[0], pair[1] * 100))]
    return []
