"""The call 12 reckon."""

import random
import unittest
from fractions import Fraction

from tests import oracle
from tests.support import last, reckon, run, told

VALUES = ("0", "1", "-1", "5", "-7", "1/2", "-1/2", "1/3", "-22/7", "100", "3/4", "9" * 40, "-" + "9" * 40,
          "1/" + "9" * 40, "-1/1" + "0" * 39)
NO_VALUES = ("", "-", "-0", "00", "01", "+1", "1/1", "2/4", "4/2", "0/5", "1/0", "0/0", "1/", "/2", "1/02", "01/2",
             "1/-2", "--1", "1.5", "1 ", " 1", "1/2/3", "1//2", "a", "-/2", "0/1", [49, 0], [255], [49] * 60)


def wanted(what, one, two):
    one, two = Fraction(one), Fraction(two)
    if what == 3:
        return oracle.one_form(one / two) if two else -6
    return oracle.one_form((one + two, one - two, one * two, None, min(one, two), max(one, two))[what])


class Reckoned(unittest.TestCase):
    def check(self, what, expected):
        for one, two, value in expected:
            self.assertEqual(told(last(reckon(what, one, two))), value, (what, one, two))

    def test_number_by_number(self):
        self.assertEqual(last(reckon(1, "1/2", "2")), [0, 4, 45, 51, 47, 50])

    def test_the_sum(self):
        self.check(0, [("1", "2", "3"), ("1/2", "1/3", "5/6"), ("1/2", "1/2", "1"), ("-5", "5", "0"), ("0", "0", "0"),
                       ("-1/2", "-1/3", "-5/6"), ("1/6", "1/3", "1/2")])

    def test_the_first_less_the_second(self):
        self.check(1, [("1", "2", "-1"), ("2", "1", "1"), ("1/2", "1/3", "1/6"), ("1/3", "1/2", "-1/6"),
                       ("-5", "-5", "0"), ("0", "7/2", "-7/2"), ("1", "-1", "2")])

    def test_the_product(self):
        self.check(2, [("6", "7", "42"), ("2/3", "3/2", "1"), ("-2/3", "3/4", "-1/2"), ("-2", "-3", "6"),
                       ("0", "-5", "0"), ("-1/7", "0", "0")])

    def test_the_first_divided_by_the_second(self):
        self.check(3, [("6", "3", "2"), ("3", "6", "1/2"), ("-3", "6", "-1/2"), ("3", "-6", "-1/2"),
                       ("-3", "-6", "1/2"), ("1/2", "1/3", "3/2"), ("1/2", "-1/3", "-3/2"), ("0", "5", "0"),
                       ("0", "-5", "0"),
                       ("7", "1", "7"), ("7", "-1", "-7")])

    def test_the_lesser(self):
        self.check(4, [("1", "2", "1"), ("2", "1", "1"), ("1/2", "1/3", "1/3"), ("-1/2", "-1/3", "-1/2"),
                       ("-5", "3", "-5"), ("0", "0", "0"), ("10", "9", "9"), ("1/3", "1/3", "1/3")])

    def test_the_greater(self):
        self.check(5, [("1", "2", "2"), ("2", "1", "2"), ("1/2", "1/3", "1/2"), ("-1/2", "-1/3", "-1/3"),
                       ("-5", "3", "3"), ("0", "0", "0"), ("10", "9", "10"), ("-7", "-7", "-7")])

    def test_each_pair_of_some_values(self):
        for one in VALUES:
            for what in range(6):
                answers = run(*[reckon(what, one, two) for two in VALUES])
                for two, answer in zip(VALUES, answers):
                    self.assertEqual(told(answer), wanted(what, one, two), (what, one, two))

    def test_held_against_fractions(self):
        source = random.Random(23)
        for _ in range(100):
            most = 10 ** source.choice((1, 2, 10, 29))
            one, two = [oracle.one_form(Fraction(source.randint(-most, most), source.randint(1, most))) for _ in "ab"]
            answers = run(*[reckon(what, one, two) for what in range(6)])
            self.assertEqual([told(answer) for answer in answers], [wanted(what, one, two) for what in range(6)])

    def test_answers_with_more_digits_than_may_be_handed_in(self):
        nines = "9" * 40
        self.check(0, [(nines, "1", "1" + "0" * 40), ("-" + nines, "-" + nines, "-1" + "9" * 39 + "8")])
        self.check(2, [(nines, nines, "9" * 39 + "8" + "0" * 39 + "1"),
                       ("1/1" + "0" * 39, "-1/1" + "0" * 39, "-1/1" + "0" * 78)])
        self.check(3, [(nines, "1/" + nines, "9" * 39 + "8" + "0" * 39 + "1")])


class Refused(unittest.TestCase):
    def test_out_of_range(self):
        for what in (-1, 6, 10 ** 18, -10 ** 18):
            self.assertEqual(last(reckon(what, "1", "2")), [-1])
            self.assertEqual(last(reckon(what, "x", "0")), [-1])

    def test_texts_that_are_none(self):
        long = "1" * 40 + "/" + "2" * 20
        for text in ([49] * 61, [49] * 100, [256], [-1], long):
            for what in range(6):
                self.assertEqual(last(reckon(what, text, "1")), [-1])
                self.assertEqual(last(reckon(what, "1", text)), [-1])
                self.assertEqual(last(reckon(what, "x", text)), [-1])

    def test_no_value_in_its_one_form(self):
        for text in NO_VALUES:
            for what in range(6):
                self.assertEqual(last(reckon(what, text, "1")), [-5], text)
                self.assertEqual(last(reckon(what, "1", text)), [-5], text)

    def test_numbers_of_40_and_of_41_digits(self):
        for text in ("1" * 40, "-" + "1" * 40, "1/" + "3" * 40, "-1/" + "3" * 40):
            self.assertEqual(told(last(reckon(0, text, "0"))), text)
            self.assertEqual(told(last(reckon(0, "0", text))), text)
        for text in ("1" * 41, "-" + "1" * 41, "1/" + "3" * 41, "-1/" + "3" * 41, "1" * 41 + "/2", "1" + "0" * 40):
            self.assertEqual(last(reckon(0, text, "0")), [-5])
            self.assertEqual(last(reckon(0, "0", text)), [-5])

    def test_a_value_of_60_bytes(self):
        text = "-" + "1" * 40 + "/" + "3" * 17 + "1"
        self.assertEqual(len(text), 60)
        self.assertEqual(oracle.one_form(Fraction(text)), text)
        self.assertEqual(told(last(reckon(0, text, "0"))), text)

    def test_a_second_value_of_0(self):
        for one in ("0", "1", "-5/3", "9" * 40):
            self.assertEqual(last(reckon(3, one, "0")), [-6])
            for what in (0, 1, 2, 4, 5):
                self.assertEqual(told(last(reckon(what, one, "0"))), wanted(what, one, "0"))

    def test_order_of_the_refusals(self):
        self.assertEqual(last(reckon(3, "x", "0")), [-5])
        self.assertEqual(last(reckon(3, "2/4", "0")), [-5])
        self.assertEqual(last(reckon(3, [256], "0")), [-1])
        self.assertEqual(last(reckon(3, "1", "-0")), [-5])

    def test_a_refusal_leaves_everything_as_it_was(self):
        self.assertEqual(run(reckon(3, "1", "0"), reckon(0, "x", "1"), reckon(6, "1", "1"), reckon(0, "1", "2")),
                         [[-6], [-5], [-1], [0, 1, 51]])


if __name__ == "__main__":
    unittest.main()
