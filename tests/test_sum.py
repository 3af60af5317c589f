"""The call 10 sum."""

import random
import unittest
from fractions import Fraction

from tests import oracle
from tests.support import add_up, coin, habit, last, run, said

COINS = [coin(1, 2, "EUR", "E"), coin(2, 2, "USD", "$"), coin(3, 0, "KKK", "k")]
ALL = habit(group=",", signs=31, coins=15, extras=63)
BEFORE = COINS + [ALL]


def summed(*texts):
    return said(last(*BEFORE, add_up(0, *texts)))


class Sums(unittest.TestCase):
    def test_one_text(self):
        self.assertEqual(summed("5"), [(0, "5")])
        self.assertEqual(summed("1,234.5 EUR"), [(1, "2469/2")])
        self.assertEqual(last(*BEFORE, add_up(0, "7$")), [0, 1, 2, 1, 55])

    def test_one_coin(self):
        self.assertEqual(summed("5 EUR", "E2.5", "-1/2EUR"), [(1, "7")])
        self.assertEqual(summed("1/3 EUR", "1/6 E"), [(1, "1/2")])

    def test_none(self):
        self.assertEqual(summed("1", "2", "3"), [(0, "6")])
        self.assertEqual(summed("1/2", "1/3", "1/7"), [(0, "41/42")])

    def test_several_coins_in_the_order_in_which_they_first_came(self):
        self.assertEqual(summed("1 USD", "2 EUR", "4 USD", "8", "16 EUR", "32 k"),
                         [(2, "5"), (1, "18"), (0, "8"), (3, "32")])
        self.assertEqual(summed("8", "2 EUR", "1 USD"), [(0, "8"), (1, "2"), (2, "1")])
        self.assertEqual(summed("1 USD", "2 EUR", "3 USD"), [(2, "4"), (1, "2")])
        self.assertEqual(last(*BEFORE, add_up(0, "1$", "12", "2$")), [0, 2, 2, 1, 51, 0, 2, 49, 50])

    def test_coins_told_in_another_order_than_their_numbers(self):
        answer = last(coin(6, 2, "EUR"), coin(2, 2, "USD"), habit(coins=4), add_up(0, "1USD", "1EUR", "1USD"))
        self.assertEqual(said(answer), [(2, "2"), (6, "1")])

    def test_sums_of_0_are_told(self):
        self.assertEqual(summed("5", "-5"), [(0, "0")])
        self.assertEqual(summed("0 EUR", "(1$)", "1 USD"), [(1, "0"), (2, "0")])

    def test_values_below_0(self):
        self.assertEqual(summed("(5)", "3-", "1 dr", "2 cr", "+4"), [(0, "-3")])

    def test_percents_and_scales(self):
        self.assertEqual(summed("5%", "1.5m", "2b"), [(0, "40030000001/20")])

    def test_twelve_texts(self):
        self.assertEqual(summed(*[str(number) for number in range(1, 13)]), [(0, "78")])
        self.assertEqual(summed(*["1/2 EUR", "1/3 USD", "1/4"] * 4), [(1, "2"), (2, "4/3"), (0, "1")])

    def test_more_digits_than_may_be_handed_in(self):
        downs = [999999999 - number for number in range(12)]
        wanted = sum([Fraction(1, down) for down in downs])
        self.assertGreater(len(str(wanted.denominator)), 60)
        self.assertEqual(summed(*["1/%d" % down for down in downs]), [(0, oracle.one_form(wanted))])
        self.assertEqual(summed(*["9" * 30 + "b"] * 12), [(0, str(12 * int("9" * 30) * 10 ** 9))])

    def test_held_against_fractions(self):
        source = random.Random(22)
        names = {1: "EUR", 2: "USD", 3: "KKK"}
        for _ in range(60):
            wanted = {}
            texts = []
            for _ in range(source.randint(1, 12)):
                up, down = source.randint(1, 99), source.randint(1, 99)
                number, sign = source.randint(0, 3), source.choice((-1, 1))
                wanted[number] = wanted.get(number, 0) + Fraction(sign * up, down)
                texts.append(("-" if sign < 0 else "") + "%d/%d" % (up, down) + (" " + names[number] if number else ""))
            self.assertEqual(summed(*texts), [(number, oracle.one_form(wanted[number])) for number in wanted], texts)


class Refused(unittest.TestCase):
    def test_out_of_range(self):
        for by in (-1, 8, 10 ** 18, -10 ** 18):
            self.assertEqual(last(*BEFORE, add_up(by, "5")), [-1])
        for text in ([49] * 61, [49] * 100, [256], [-1]):
            self.assertEqual(summed(text), -1)
            self.assertEqual(summed(*["5"] * 11, text), -1)

    def test_no_such_habit(self):
        self.assertEqual(last(add_up(0, "5")), [-3])
        self.assertEqual(last(*BEFORE, add_up(1, "5")), [-3])
        self.assertEqual(last(*[ALL] * 7, add_up(7, "5")), [-3])
        self.assertEqual(said(last(*[ALL] * 8, add_up(7, "5"))), [(0, "5")])

    def test_the_fault_of_each_text(self):
        for nth in range(1, 13):
            for text, place in (("", 0), ("x", 0), ("12x", 2), ("3 5/2", 5), ("1" * 60, 30)):
                texts = ["5"] * (nth - 1) + [text] + ["5"] * (12 - nth)
                self.assertEqual(summed(*texts), -1000 * nth - place, texts)

    def test_a_fault_at_the_end_of_a_text_of_60_bytes(self):
        unended = "(" + ",".join(["987"] * 10) + "." + "0" * 15 + " EUR"
        self.assertEqual(len(unended), 60)
        self.assertEqual(summed(unended), -1060)
        self.assertEqual(summed(*["5"] * 11, unended), -12060)

    def test_several_amounts(self):
        self.assertEqual(summed("5k"), -7)
        self.assertEqual(summed("5", "5k"), -7)
        self.assertEqual(summed(*["5"] * 11, "5k"), -7)

    def test_text_by_text_in_order(self):
        self.assertEqual(summed("5", "x", "5k"), -2000)
        self.assertEqual(summed("5", "5k", "x"), -7)
        self.assertEqual(summed("5", "12x", "x"), -2002)
        self.assertEqual(summed("5k", "x"), -7)
        self.assertEqual(summed("x", "5k"), -1000)

    def test_order_of_the_refusals(self):
        self.assertEqual(last(add_up(8, "x")), [-1])
        self.assertEqual(last(add_up(0, "x", [256])), [-1])
        self.assertEqual(last(*BEFORE, add_up(1, "x", [49] * 61)), [-1])
        self.assertEqual(summed("x", "5k", [-1]), -1)
        self.assertEqual(last(*BEFORE, add_up(1, "x", "5k")), [-3])

    def test_a_refusal_leaves_everything_as_it_was(self):
        answers = run(*BEFORE, add_up(0, "5", "7 EUR", "x"), add_up(0, "5", "5k"), add_up(1, "5"), add_up(0, [256]),
                      add_up(0, "5", "7 EUR"))
        self.assertEqual(answers[4:8], [[-3000], [-7], [-3], [-1]])
        self.assertEqual(said(answers[8]), [(0, "5"), (1, "7")])


if __name__ == "__main__":
    unittest.main()
