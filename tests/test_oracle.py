"""Reading, following and what is made of amounts, held against another way of reading (tests.oracle).

The texts are made by a fixed rule.
"""

import random
import unittest

from tests import oracle
from tests.support import HABIT, add_up, call, coin, code, column, follow, normal, read, run, said, units

COIN_SETS = ({}, {1: ("EUR", "$")}, {2: ("USD", "k"), 1: ("EUR", "")}, {3: ("DRA", "dr"), 6: ("KMB", "km")},
             {5: ("CRA", "cr"), 4: ("EUR", "b")})


def made_habit(source):
    while True:
        habit = (source.choice((0, 32, 39, 44, 46)), source.randrange(2), source.randrange(2), source.choice((44, 46)),
                 source.choice((31, 31, source.randrange(32))), source.choice((15, 15, source.randrange(32))),
                 source.choice((63, 31, source.randrange(64))))
        if habit[0] != habit[3] and habit[5] != 16 and (habit[0] or not habit[2]):
            return habit


def made_whole(source, habit):
    count = source.choice((1, 1, 2, 3, 4, 5, 6, 7, 9, 27, 28, 29, 30, 31))
    digits = "".join(source.choice("0123456789") for _ in range(count))
    if source.randrange(3):
        digits = str(int(digits))
    if not habit[0] or not source.randrange(3):
        return digits
    cut = max(len(digits) - 3, 0)
    text = digits[cut:]
    while cut > 0:
        start = max(cut - 3 + habit[1], 0)
        text = digits[start:cut] + chr(habit[0]) + text
        cut = start
    return text


def made_number(source, habit):
    if not source.randrange(3):
        up = source.choice((source.randrange(20), source.randrange(10 ** 8), 10 ** 8 - 1, 10 ** 8))
        down = source.choice((source.randrange(20), source.randrange(10 ** 9), 10 ** 9 - 1, 10 ** 9))
        whole = made_whole(source, habit) + " " if source.randrange(2) else ""
        return "%s%d/%d" % (whole, up, down)
    text = made_whole(source, habit) if source.randrange(6) else ""
    if source.randrange(2):
        count = source.choice((0, 1, 2, 3, 14, 15, 16))
        text += chr(habit[3]) + "".join(source.choice("0123456789") for _ in range(count))
    return text + source.choice(("", "", "", "k", "m", "b", "%"))


def made_text(source, habit, coins):
    text = made_number(source, habit)
    told = source.choice([one for pair in coins.values() for one in pair if one] or ["EUR"])
    text = source.choice((text, told + text, told + " " + text, text + told, text + " " + told))
    text = source.choice((text, text, "-" + text, "+" + text, "(" + text + ")", text + "-", text + " dr", text + " cr"))
    if not source.randrange(6):
        text = text[:source.randrange(len(text) + 1)]
    if text and not source.randrange(5):
        at = source.randrange(len(text))
        text = text[:at] + source.choice("0123456789 .,'-+()kmb%/drcEUR$\0\xff") + text[at + source.randrange(2):]
    return text[:60]


class HeldAgainstTheOracle(unittest.TestCase):
    def told(self, habit, coins):
        return [coin(number, 2, name, mark) for number, (name, mark) in coins.items()] + [call(HABIT, habit)]

    def test_reading(self):
        source = random.Random(20)
        for _ in range(200):
            habit = made_habit(source)
            coins = source.choice(COIN_SETS)
            text = made_text(source, habit, coins)
            wanted = [(number, oracle.one_form(value)) for number, value in oracle.says(habit, coins, text)]
            answer = run(*self.told(habit, coins), read(0, text))[-1]
            self.assertEqual(said(answer), wanted or -1000 - oracle.place_of_fault(habit, coins, text),
                             (habit, coins, text))

    def test_following(self):
        source = random.Random(21)
        for _ in range(12):
            habit = made_habit(source)
            coins = source.choice(COIN_SETS)
            text = made_text(source, habit, coins)
            text = text[:oracle.place_of_fault(habit, coins, text)]
            wanted = oracle.followers(habit, coins, text)
            answer = run(*self.told(habit, coins), follow(0, text))[-1]
            self.assertEqual(answer, [0, len(wanted)] + wanted, (habit, coins, text))

    def refused(self, habit, coins, text, nth):
        """The number that refuses the n-th text by the habit, or None."""
        amounts = oracle.says(habit, coins, text)
        if not amounts:
            return -1000 * nth - oracle.place_of_fault(habit, coins, text)
        return -7 if len(amounts) > 1 else None

    def wanted_normal(self, habit, coins, text):
        refusal = self.refused(habit, coins, text, 1)
        if refusal is not None:
            return [refusal]
        number, value = oracle.says(habit, coins, text)[0]
        return [0, number] + row_of(value)

    def wanted_units(self, habit, coins, text, digits):
        refusal = self.refused(habit, coins, text, 1)
        if refusal is not None:
            return [refusal]
        number, value = oracle.says(habit, coins, text)[0]
        if number == 0:
            return [-8]
        value = value * 10 ** digits
        return [0] + row_of(value) if value.denominator == 1 else [-6]

    def wanted_sum(self, habit, coins, texts):
        sums = {}
        for nth, text in enumerate(texts, start=1):
            refusal = self.refused(habit, coins, text, nth)
            if refusal is not None:
                return [refusal]
            number, value = oracle.says(habit, coins, text)[0]
            sums[number] = sums.get(number, 0) + value
        answer = [0, len(sums)]
        for number in sums:
            answer += [number] + row_of(sums[number])
        return answer

    def test_normal_and_units(self):
        source = random.Random(24)
        for _ in range(100):
            habit = made_habit(source)
            coins = source.choice(COIN_SETS)
            digits = source.randrange(5)
            text = made_text(source, habit, coins)
            told = [coin(number, digits, name, mark) for number, (name, mark) in coins.items()] + [call(HABIT, habit)]
            self.assertEqual(run(*told, normal(0, text), units(0, text))[-2:],
                             [self.wanted_normal(habit, coins, text), self.wanted_units(habit, coins, text, digits)],
                             (habit, coins, digits, text))

    def test_sums(self):
        source = random.Random(25)
        for _ in range(40):
            habit = made_habit(source)
            coins = source.choice(COIN_SETS)
            texts = [made_text(source, habit, coins) for _ in range(source.randint(2, 40))]
            good = [text for text in texts if len(oracle.says(habit, coins, text)) == 1]
            texts = (source.choice((good, good + texts[:1])) or texts)[-12:]
            self.assertEqual(run(*self.told(habit, coins), add_up(0, *texts))[-1], self.wanted_sum(habit, coins, texts),
                             (habit, coins, texts))

    def test_columns(self):
        source = random.Random(26)
        for _ in range(60):
            coins = source.choice(COIN_SETS)
            habits = [made_habit(source) for _ in range(source.randrange(9))]
            texts = [made_text(source, made_habit(source), coins)[:source.choice((3, 5, 60))]
                     for _ in range(source.choice((1, 1, 2, 12)))]
            told = [coin(number, 2, name, mark) for number, (name, mark) in coins.items()]
            said_by = [[oracle.says(habit, coins, text) for text in texts] for habit in habits]
            those = [at for at, amounts in enumerate(said_by) if all(len(one) == 1 for one in amounts)]
            alike = int(all(said_by[at] == said_by[those[0]] for at in those))
            self.assertEqual(run(*told, *[call(HABIT, habit) for habit in habits], column(*texts))[-1],
                             [0, alike, len(those)] + those, (coins, habits, texts))


def row_of(value):
    text = oracle.one_form(value)
    return [len(text)] + code(text)


if __name__ == "__main__":
    unittest.main()
