"""Reading and following held against another way of reading (tests.oracle), over texts made by a fixed rule."""

import random
import unittest

from tests import oracle
from tests.support import HABIT, call, coin, follow, read, run, said

COIN_SETS = ({}, {1: ("EUR", "$")}, {2: ("USD", "k"), 1: ("EUR", "")}, {3: ("DRA", "dr"), 6: ("KMB", "km")},
             {5: ("CRA", "cr"), 4: ("EUR", "b")})


def made_habit(source):
    while True:
        habit = (source.choice((0, 32, 39, 44, 46)), source.randrange(2), source.randrange(2), source.choice((44, 46)),
                 source.choice((31, 31, source.randrange(32))), source.choice((15, 15, source.randrange(32))),
                 source.choice((63, 31, source.randrange(64))))
        if habit[0] != habit[3] and habit[5] != 16 and (habit[0] or not habit[2]):
            return habit


def made_whole(source, habit):
    count = source.choice((1, 1, 2, 3, 4, 5, 6, 7, 9, 27, 28, 29, 30, 31))
    digits = "".join(source.choice("0123456789") for _ in range(count))
    if source.randrange(3):
        digits = str(int(digits))
    if not habit[0] or not source.randrange(3):
        return digits
    cut = max(len(digits) - 3, 0)
    text = digits[cut:]
    while cut > 0:
        start = max(cut - 3 + habit[1], 0)
        text = digits[start:cut] + chr(habit[0]) + text
        cut = start
    return text


def made_number(source, habit):
    if not source.randrange(3):
        up = source.choice((source.randrange(20), source.randrange(10 ** 8), 10 ** 8 - 1, 10 ** 8))
        down = source.choice((source.randrange(20), source.randrange(10 ** 9), 10 ** 9 - 1, 10 ** 9))
        whole = made_whole(source, habit) + " " if source.randrange(2) else ""
        return "%s%d/%d" % (whole, up, down)
    text = made_whole(source, habit) if source.randrange(6) else ""
    if source.randrange(2):
        count = source.choice((0, 1, 2, 3, 14, 15, 16))
        text += chr(habit[3]) + "".join(source.choice("0123456789") for _ in range(count))
    return text + source.choice(("", "", "", "k", "m", "b", "%"))


def made_text(source, habit, coins):
    text = made_number(source, habit)
    told = source.choice([one for pair in coins.values() for one in pair if one] or ["EUR"])
    text = source.choice((text, told + text, told + " " + text, text + told, text + " " + told))
    text = source.choice((text, text, "-" + text, "+" + text, "(" + text + ")", text + "-", text + " dr", text + " cr"))
    if not source.randrange(6):
        text = text[:source.randrange(len(text) + 1)]
    if text and not source.randrange(5):
        at = source.randrange(len(text))
        text = text[:at] + source.choice("0123456789 .,'-+()kmb%/drcEUR$\0\xff") + text[at + source.randrange(2):]
    return text[:60]


class HeldAgainstTheOracle(unittest.TestCase):
    def told(self, habit, coins):
        return [coin(number, 2, name, mark) for number, (name, mark) in coins.items()] + [call(HABIT, habit)]

    def test_reading(self):
        source = random.Random(20)
        for _ in range(200):
            habit = made_habit(source)
            coins = source.choice(COIN_SETS)
            text = made_text(source, habit, coins)
            wanted = [(number, oracle.one_form(value)) for number, value in oracle.says(habit, coins, text)]
            answer = run(*self.told(habit, coins), read(0, text))[-1]
            self.assertEqual(said(answer), wanted or -1000 - oracle.place_of_fault(habit, coins, text),
                             (habit, coins, text))

    def test_following(self):
        source = random.Random(21)
        for _ in range(12):
            habit = made_habit(source)
            coins = source.choice(COIN_SETS)
            text = made_text(source, habit, coins)
            text = text[:oracle.place_of_fault(habit, coins, text)]
            wanted = oracle.followers(habit, coins, text)
            answer = run(*self.told(habit, coins), follow(0, text))[-1]
            self.assertEqual(answer, [0, len(wanted)] + wanted, (habit, coins, text))


if __name__ == "__main__":
    unittest.main()
