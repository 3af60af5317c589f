"""Reading by another way: patterns over whole texts, and beginnings tried out by going on with them.

It shares nothing with the package. A habit is the tuple of its seven numbers, coins are {number: (name, mark)}, texts
are str.
"""

import re
from fractions import Fraction

ENDS_OF_NUMBERS = ["", "1", "11", "111", "/1", "/999999999", "1/1", "1/999999999"] + ["9" * n for n in range(1, 10)]
SCALES = {"k": 1000, "m": 10 ** 6, "b": 10 ** 9, "": 1}


def whole_of(habit, text):
    group, kind, must, extras = habit[0], habit[1], habit[2], habit[6]
    patterns = ["[0-9]{1,3}" if must else "[0-9]{1,30}"]
    if group:
        between = re.escape(chr(group))
        if kind == 0:
            patterns.append("[0-9]{1,3}(?:%s[0-9]{3})+" % between)
        else:
            patterns.append("[0-9]{1,2}(?:%s[0-9]{2})*%s[0-9]{3}" % (between, between))
    if not any(re.fullmatch(pattern, text) for pattern in patterns):
        return None
    digits = text.replace(chr(group), "") if group else text
    if len(digits) > 30 or (len(digits) > 1 and digits[0] == "0" and not extras & 32):
        return None
    return int(digits)


def decimal_of(habit, text):
    extras = habit[6]
    point = chr(habit[3])
    if point not in text:
        return whole_of(habit, text)
    ahead, behind = text.split(point, 1)
    if behind == "":
        return whole_of(habit, ahead) if extras & 16 else None
    if not re.fullmatch("[0-9]{1,15}", behind):
        return None
    whole = whole_of(habit, ahead) if ahead else (0 if extras & 8 else None)
    return None if whole is None else whole + Fraction(int(behind), 10 ** len(behind))


def fraction_of(habit, text):
    found = re.fullmatch("(?:(.*) )?([1-9][0-9]{0,7})/([1-9][0-9]{0,8})", text, re.DOTALL)
    if not found or not habit[6] & 1:
        return None
    up, down = int(found[2]), int(found[3])
    if found[1] is None:
        return Fraction(up, down)
    whole = whole_of(habit, found[1])
    return None if whole is None or up >= down else whole + Fraction(up, down)


def number_of(habit, text):
    extras = habit[6]
    if text[-1:] in ("k", "m", "b"):
        value = decimal_of(habit, text[:-1]) if extras & 4 else None
        return None if value is None else Fraction(value) * SCALES[text[-1]]
    if text[-1:] == "%":
        value = decimal_of(habit, text[:-1]) if extras & 2 else None
        return None if value is None else Fraction(value) / 100
    return fraction_of(habit, text) if "/" in text else decimal_of(habit, text)


def frames(habit):
    """What stands around all: ahead, behind, and what it makes of the number."""
    signs = habit[4]
    around = [("", "", 1)]
    for bit, ahead, behind, factor in ((1, "-", "", -1), (2, "", "-", -1), (4, "(", ")", -1), (8, "", " dr", -1),
                                       (8, "", " cr", 1), (16, "+", "", 1)):
        if signs & bit:
            around.append((ahead, behind, factor))
    return around


def coin_places(habit, coins):
    lets = habit[5]
    around = [] if lets & 16 else [("", "", 0)]
    for number, texts in coins.items():
        for text in texts:
            if text:
                for bit, ahead, behind in ((1, text, ""), (2, text + " ", ""), (4, "", text), (8, "", " " + text)):
                    if lets & bit:
                        around.append((ahead, behind, number))
    return around


def surroundings(habit, coins):
    """All that may stand around a number: ahead, behind, the coin, and what it makes of the number."""
    return [(ahead + coin_ahead, coin_behind + behind, coin, factor) for ahead, behind, factor in frames(habit)
            for coin_ahead, coin_behind, coin in coin_places(habit, coins)]


def says(habit, coins, text, around=None):
    """The amounts, as a sorted list of (coin, Fraction)."""
    found = set()
    for head, tail, coin, factor in around or surroundings(habit, coins):
        if len(text) > len(head) + len(tail) and text.startswith(head) and text.endswith(tail):
            value = number_of(habit, text[len(head):len(text) - len(tail)])
            if value is not None:
                found.add((coin, Fraction(value) * factor))
    return sorted(found)


def goings_on(text, around):
    more = {}
    for head, tail, _, _ in around:
        if head.startswith(text):
            more[head[len(text):] + "1" + tail] = True
        if text.startswith(head):
            for cut in range(len(tail) + 1):
                if text.endswith(tail[:cut]):
                    for end in ENDS_OF_NUMBERS if cut == 0 else [""]:
                        more[end + tail[cut:]] = True
    return list(more)


def can_stand(habit, coins, text):
    """Whether some text that says an amount begins so."""
    around = surroundings(habit, coins)
    return any(says(habit, coins, text + more, around) for more in goings_on(text, around))


def place_of_fault(habit, coins, text):
    for stood in range(len(text)):
        if not can_stand(habit, coins, text[:stood + 1]):
            return stood
    return len(text)


def followers(habit, coins, text):
    return [byte for byte in range(128) if can_stand(habit, coins, text + chr(byte))]


def one_form(value):
    return str(value.numerator) if value.denominator == 1 else "%d/%d" % (value.numerator, value.denominator)
