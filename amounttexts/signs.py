"""The bytes that amounts are written with, and digits as bytes."""

BLANK = 32
PERCENT = 37
OPENING = 40
CLOSING = 41
PLUS = 43
MINUS = 45
SLASH = 47
ZERO = 48
ONE = 49
NINE = 57


def is_digit(byte):
    return ZERO <= byte <= NINE


def bytes_of(words):
    return [ord(sign) for sign in words]


# The digits of a number that is not below 0, without zeros in front.
def digits_of(number):
    return bytes_of(str(number))


def number_of(digits):
    number = 0
    for byte in digits:
        number = number * 10 + byte - ZERO
    return number
