"""Values: exact fractions, each a pair of its upper and its lower number; the lower one is above 0."""

from amounttexts.signs import MINUS, ONE, SLASH, digits_of, is_digit, number_of

MOST_DIGITS = 40


# The pair in lowest terms.
def lowest(pair):
    divisor = abs(pair[0])
    rest = pair[1]
    while rest != 0:
        left = divisor % rest
        divisor = rest
        rest = left
    return (pair[0] // divisor, pair[1] // divisor)


def is_less(one, two):
    return one[0] * two[1] < two[0] * one[1]


def plus(one, two):
    return lowest((one[0] * two[1] + two[0] * one[1], one[1] * two[1]))


# The first value less the second.
def minus(one, two):
    return plus(one, (-two[0], two[1]))


def times(one, two):
    return lowest((one[0] * two[0], one[1] * two[1]))


# The first value divided by the second, which isn't 0.
def divided(one, two):
    # The lower number stays above 0: a sign goes to the upper one.
    turned = (two[1], two[0]) if two[0] > 0 else (-two[1], -two[0])
    return times(one, turned)


# The one text of a value in lowest terms.
def one_form(value):
    text = digits_of(abs(value[0]))
    if value[0] < 0:
        text = [MINUS] + text
    if value[1] != 1:
        text = text + [SLASH] + digits_of(value[1])
    return text


def are_digits(text):
    return 1 <= len(text) <= MOST_DIGITS and all([is_digit(byte) for byte in text])


# The value that has this text as its one form, or None if there is none.
def value_of(text):
    body = text[1:] if text[:1] == [MINUS] else text
    cut = body.index(SLASH) if SLASH in body else len(body)
    upper = body[:cut]
    lower = body[cut + 1:] if cut < len(body) else [ONE]
    if not are_digits(upper) or not are_digits(lower) or number_of(lower) == 0:
        return None
    number = number_of(upper)
    if body != text:
        number = -number
    value = lowest((number, number_of(lower)))
    # A value has one text alone: whatever else would be read as it (2/4, 007, -0, 5/1) is none.
    if one_form(value) != text:
        return None
    return value
