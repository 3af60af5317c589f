"""The call 9 units."""

import unittest

from tests.support import coin, habit, last, run, told, units

COINS = [coin(1, 0, "JPY", "Y"), coin(2, 1, "AAA"), coin(3, 2, "EUR", "E"), coin(4, 3, "KWD"), coin(5, 4, "CLF"),
         coin(6, 2, "KKK", "k")]
ALL = habit(group=",", signs=31, coins=15, extras=63)


class Case(unittest.TestCase):
    def check(self, expected):
        answers = run(*COINS, ALL, *[units(0, text) for text in expected])[7:]
        for text, answer in zip(expected, answers):
            self.assertEqual(told(answer), expected[text], text)


class Units(Case):
    def test_of_each_number_of_digits(self):
        self.check({"5 JPY": "5", "5 AAA": "50", "5 EUR": "500", "5 KWD": "5000", "5 CLF": "50000"})

    def test_the_least_unit_and_less_than_it(self):
        self.check({"1 JPY": "1", "0.1 AAA": "1", "0.01 EUR": "1", "0.001 KWD": "1", "0.0001 CLF": "1",
                    "0.1 JPY": -6, "0.01 AAA": -6, "0.001 EUR": -6, "0.0001 KWD": -6, "0.00001 CLF": -6})

    def test_by_name_and_by_mark_at_each_place(self):
        self.check({"EUR1.25": "125", "E 1.25": "125", "1.25E": "125", "1.25 EUR": "125"})

    def test_values_of_0_and_below(self):
        self.check({"0 EUR": "0", "-0 EUR": "0", "0.000 JPY": "0", "(1.25E)": "-125", "7 JPY dr": "-7", "E5-": "-500",
                    "-0.001 EUR": -6})

    def test_fractions_percents_and_scales(self):
        self.check({"1/4 EUR": "25", "1/3 EUR": -6, "3 1/2 JPY": -6, "3 1/2 AAA": "35", "1/8 EUR": -6, "1/8 KWD": "125",
                    "5% EUR": "5", "0.5% EUR": -6, "0.5%CLF": "50", "2k JPY": "2000", "1.2345k EUR": "123450",
                    "0.0005k JPY": -6, "2.0 JPY": "2", "4/2 JPY": "2"})

    def test_more_digits_than_may_be_handed_in(self):
        self.check({"9" * 30 + "b CLF": "9" * 30 + "0" * 13, "-" + "1" * 30 + "b EUR": "-" + "1" * 30 + "0" * 11})

    def test_a_text_of_60_bytes(self):
        text = "(" + ",".join(["987"] * 10) + ".12" + "0" * 13 + "k E)"
        self.assertEqual(len(text), 60)
        self.check({text: "-" + "987" * 10 + "12000"})
        self.assertEqual(last(*COINS, ALL, units(0, text + " ")), [-1])

    def test_a_coin_told_anew_has_the_digits_told_last(self):
        answers = run(coin(1, 2, "EUR"), habit(coins=8), units(0, "5 EUR"), coin(1, 3, "EUR"), units(0, "5 EUR"),
                      coin(1, 5, "EUR"), units(0, "5 EUR"), coin(1, 0, "EUR"), units(0, "5 EUR"))
        self.assertEqual([told(answers[at]) for at in (2, 4, 6, 8)], ["500", "5000", "5000", "5"])


class Refused(Case):
    def test_out_of_range(self):
        for by in (-1, 8, 10 ** 18, -10 ** 18):
            self.assertEqual(last(*COINS, ALL, units(by, "5 EUR")), [-1])
        for text in ([49] * 61, [49] * 100, [256], [-1]):
            self.assertEqual(last(*COINS, ALL, units(0, text)), [-1])

    def test_no_such_habit(self):
        self.assertEqual(last(*COINS, units(0, "5 EUR")), [-3])
        self.assertEqual(last(*COINS, ALL, units(1, "5 EUR")), [-3])
        self.assertEqual(last(*COINS, *[ALL] * 7, units(7, "5 EUR")), [-3])
        self.assertEqual(told(last(*COINS, *[ALL] * 8, units(7, "5 EUR"))), "500")

    def test_the_place_of_the_fault(self):
        self.check({"": -1000, "x": -1000, "5 EU": -1004, "5 EURO": -1005, "3 5/2": -1005, "5 EUR E": -1006,
                    "1" * 60: -1030, "EUR5 EUR": -1005})

    def test_several_amounts(self):
        self.check({"5k": -7, "5kk": "500000", "5 k": "500"})

    def test_no_coin(self):
        self.check({"5": -8, "0": -8, "1/3": -8, "0.001": -8})

    def test_order_of_the_refusals(self):
        self.assertEqual(last(units(8, "x")), [-1])
        self.assertEqual(last(units(0, [256])), [-1])
        self.assertEqual(last(units(0, "x")), [-3])
        self.assertEqual(last(ALL, units(0, "5x")), [-1001])
        self.check({"0.0005k": -7, "0.0005": -8, "0.0005 EUR": -6})

    def test_a_refusal_leaves_everything_as_it_was(self):
        refused = [units(0, "5"), units(0, "x"), units(0, "5k"), units(0, "0.001 EUR"), units(1, "5"), units(8, "5")]
        answers = run(*COINS, ALL, *refused, units(0, "1.25 EUR"))
        self.assertEqual(answers[7:13], [[-8], [-1000], [-7], [-6], [-3], [-1]])
        self.assertEqual(told(answers[13]), "125")


if __name__ == "__main__":
    unittest.main()
