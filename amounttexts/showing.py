"""Amounts in styles. What a style can't tell is None."""

from amounttexts.limits import LAST_GROUP, MOST_DECIMALS, MOST_IN_DOWN, MOST_IN_UP, MOST_IN_WHOLE, OTHER_GROUPS
from amounttexts.ratio import lowest
from amounttexts.signs import BLANK, CLOSING, MINUS, OPENING, PERCENT, SLASH, ZERO, bytes_of, digits_of

# The scales with their letters, the greatest first.
SCALES_FALLING = ((1000000000, 98), (1000000, 109), (1000, 107))

PLACE_NONE = 0
PLACE_AHEAD = 1
PLACE_AHEAD_AND_BLANK = 2
PLACE_BEHIND = 3
SIGN_MINUS_AHEAD = 0
SIGN_MINUS_BEHIND = 1
SIGN_DR_AND_CR = 3
FORM_DECIMALS_TOLD = 0
FORM_FEWEST_DECIMALS = 1
FORM_FRACTION = 2
FORM_PERCENT = 3


def in_groups(digits, habit):
    size = OTHER_GROUPS[habit.kind]
    cut = max(len(digits) - LAST_GROUP, 0)
    text = digits[cut:]
    while cut > 0:
        start = max(cut - size, 0)
        text = digits[start:cut] + [habit.group] + text
        cut = start
    return text


def whole_text(style, habit, whole):
    digits = digits_of(whole)
    if len(digits) > MOST_IN_WHOLE:
        return None
    if style.grouped == 1:
        return in_groups(digits, habit)
    return digits


# The value with so many decimals, if these tell it whole.
def text_with_decimals(style, habit, value, decimals):
    parts = 1
    for turn in range(decimals):
        parts = parts * 10
    if value[0] * parts % value[1] != 0:
        return None
    number = value[0] * parts // value[1]
    whole = whole_text(style, habit, number // parts)
    if whole is None or decimals == 0:
        return whole
    digits = digits_of(number % parts)
    return whole + [habit.point] + [ZERO] * (decimals - len(digits)) + digits


# The value with as few decimals as tell it whole.
def text_with_fewest(style, habit, value):
    parts = 1
    for decimals in range(MOST_DECIMALS + 1):
        if value[0] * parts % value[1] == 0:
            return text_with_decimals(style, habit, value, decimals)
        parts = parts * 10
    return None


def fraction_text(style, habit, value):
    whole = whole_text(style, habit, value[0] // value[1])
    if whole is None or value[1] == 1:
        return whole
    up = digits_of(value[0] % value[1])
    down = digits_of(value[1])
    if len(up) > MOST_IN_UP or len(down) > MOST_IN_DOWN:
        return None
    if value[0] < value[1]:
        return up + [SLASH] + down
    return whole + [BLANK] + up + [SLASH] + down


def percent_text(style, habit, value):
    text = text_with_fewest(style, habit, lowest((value[0] * 100, value[1])))
    if text is None:
        return None
    return text + [PERCENT]


def scale_text(style, habit, value):
    for unit, letter in SCALES_FALLING:
        if value[0] >= value[1] * unit:
            text = text_with_fewest(style, habit, lowest((value[0], value[1] * unit)))
            return None if text is None else text + [letter]
    return text_with_fewest(style, habit, value)


# A value that is not below 0, in the style's form.
def number_text(style, habit, value):
    if style.form == FORM_DECIMALS_TOLD:
        return text_with_decimals(style, habit, value, style.decimals)
    if style.form == FORM_FEWEST_DECIMALS:
        return text_with_fewest(style, habit, value)
    if style.form == FORM_FRACTION:
        return fraction_text(style, habit, value)
    if style.form == FORM_PERCENT:
        return percent_text(style, habit, value)
    return scale_text(style, habit, value)


# The text with the coin put to it; the coin is None just if the style has no place for one.
def with_coin(style, text, coin):
    if style.place == PLACE_NONE:
        return text
    told = coin.mark if style.marked == 1 and coin.mark != [] else coin.name
    if style.place == PLACE_AHEAD:
        return told + text
    if style.place == PLACE_AHEAD_AND_BLANK:
        return told + [BLANK] + text
    if style.place == PLACE_BEHIND:
        return text + told
    return text + [BLANK] + told


def with_sign(style, text, is_below):
    if style.sign == SIGN_DR_AND_CR:
        return text + bytes_of(" dr" if is_below else " cr")
    if not is_below:
        return text
    if style.sign == SIGN_MINUS_AHEAD:
        return [MINUS] + text
    if style.sign == SIGN_MINUS_BEHIND:
        return text + [MINUS]
    return [OPENING] + text + [CLOSING]


# The amount in the style of this habit, or None if the style can't tell it; the coin is None if it has none.
def shown(style, habit, coin, value):
    if (coin is None) != (style.place == PLACE_NONE):
        return None
    text = number_text(style, habit, (abs(value[0]), value[1]))
    if text is None:
        return None
    return with_sign(style, with_coin(style, text, coin), value[0] < 0)
