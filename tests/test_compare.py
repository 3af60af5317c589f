"""The call 8 compare."""

import unittest

from tests.support import coin, compare, habit, last

COINS = [coin(1, 2, "EUR", "E"), coin(2, 2, "USD", "k")]
POINTS_BETWEEN = habit(group=".", point=",", signs=31, coins=15, extras=63)
COMMAS_BETWEEN = habit(group=",", point=".", signs=31, coins=15, extras=63)
BOTH = COINS + [POINTS_BETWEEN, COMMAS_BETWEEN]


class Compared(unittest.TestCase):
    def check(self, text, second, wanted):
        self.assertEqual(last(*BOTH, compare(0, 1, text, second)), [0, wanted], (text, second))

    def test_less_equal_more(self):
        for text, second, wanted in (("1", "2", 0), ("2", "2", 1), ("3", "2", 2), ("1.234", "1.234", 2),
                                     ("1,5", "1.5", 1), ("-1", "0", 0), ("(5)", "5-", 1), ("5 dr", "-6", 2),
                                     ("1/3", "0.333333333333333", 2), ("1/3", "0.333333333333334", 0),
                                     ("2/4", "50%", 1), ("1m", "1,000,000", 1), ("-0", "0", 1), ("-1/2", "-1/3", 0),
                                     ("3 1/2", "3.5", 1)):
            self.check(text, second, wanted)

    def test_with_coins(self):
        self.check("5 EUR", "E5.00", 1)
        self.check("5 USD", "USD 6", 0)
        self.check("(5E)", "EUR5-", 1)

    def test_by_the_last_of_eight_habits(self):
        self.assertEqual(last(*[habit()] * 8, compare(7, 7, "1", "2")), [0, 0])
        self.assertEqual(last(*[habit()] * 7, compare(0, 7, "1", "2")), [-3])
        self.assertEqual(last(*[habit()] * 7, compare(7, 0, "1", "2")), [-3])

    def test_numbers_of_30_digits(self):
        self.check("9" * 29 + "8", "9" * 30, 0)
        self.check("9" * 30 + "," + "9" * 15, "9" * 30 + "." + "9" * 14 + "8", 2)


class Refused(unittest.TestCase):
    def check(self, one, two, text, second, wanted):
        self.assertEqual(last(*BOTH, compare(one, two, text, second)), [wanted], (one, two, text, second))

    def test_out_of_range(self):
        for one, two in ((-1, 0), (8, 0), (0, -1), (0, 8), (10 ** 18, 0), (0, -10 ** 18)):
            self.check(one, two, "x", "x", -1)
        for text in ([49] * 61, [256], [-1]):
            self.check(2, 2, text, "1", -1)
            self.check(2, 2, "1", text, -1)
            self.check(0, 0, "x", text, -1)

    def test_no_such_first_habit(self):
        self.check(2, 0, "1", "1", -3)
        self.check(2, 0, "x", "x", -3)

    def test_the_first_text(self):
        self.check(0, 1, "x", "1", -1000)
        self.check(0, 1, "1x", "1", -1001)
        self.check(0, 1, "3 5/2", "1", -1005)
        self.check(0, 1, "", "", -1000)
        self.check(0, 1, "5k", "1", -7)

    def test_the_first_text_comes_ahead_of_the_second_habit(self):
        self.check(0, 2, "x", "x", -1000)
        self.check(0, 2, "5k", "x", -7)
        self.check(0, 2, "1", "x", -3)

    def test_the_second_text(self):
        self.check(0, 1, "1", "x", -2000)
        self.check(0, 1, "1", "1x", -2001)
        self.check(0, 1, "1", "3 5/2", -2005)
        self.check(0, 1, "1", "", -2000)
        self.check(0, 1, "1", "5k", -7)
        self.check(0, 1, "1 EUR", "1x", -2001)

    def test_each_text_by_its_own_habit(self):
        self.check(0, 1, "1.23", "1", -1004)
        self.check(0, 1, "1", "1,23", -2004)
        self.check(1, 0, "1", "1.23", -2004)

    def test_unlike_coins(self):
        self.check(0, 1, "1 EUR", "1 USD", -8)
        self.check(0, 1, "1", "1 USD", -8)
        self.check(0, 1, "1 EUR", "1", -8)
        self.check(0, 1, "1 EUR", "5k", -7)


if __name__ == "__main__":
    unittest.main()
