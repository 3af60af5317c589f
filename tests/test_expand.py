"""The call 14 expand."""

import unittest
from fractions import Fraction

from tests import oracle
from tests.support import expand, last, rows, run


def times_in(number, factor):
    count = 0
    while number % factor == 0:
        number //= factor
        count += 1
    return count


def expanded(upper, lower):
    """By how often 2 and 5 are in the lower number and by the least power of 10 that leaves 1 by the rest of it."""
    value = Fraction(abs(upper), lower)
    lower = value.denominator
    once = max(times_in(lower, 2), times_in(lower, 5))
    left = lower // 2 ** times_in(lower, 2) // 5 ** times_in(lower, 5)
    again = 0
    if left > 1:
        again = next((n for n in range(1, 70) if pow(10, n, left) == 1), 70)
    if once + again > 60:
        return -6
    digits = str(value.numerator * 10 ** (once + again) // lower).zfill(once + again + 1)
    cut = len(digits) - once - again
    return [digits[:cut], digits[cut:cut + once], digits[cut + once:]]


class Expanded(unittest.TestCase):
    def check(self, expected):
        for value, wanted in expected.items():
            self.assertEqual(rows(last(expand(value))), wanted, value)

    def test_number_by_number(self):
        self.assertEqual(last(expand("7/12")), [0, 1, 48, 2, 53, 56, 1, 51])
        self.assertEqual(last(expand("25/2")), [0, 2, 49, 50, 1, 53, 0])

    def test_the_example_of_the_document(self):
        self.check({"7/12": ["0", "58", "3"]})

    def test_decimals_that_end(self):
        self.check({"1/2": ["0", "5", ""], "5/4": ["1", "25", ""], "1/8": ["0", "125", ""], "1/20": ["0", "05", ""],
                    "12345/100000": -5, "2469/20000": ["0", "12345", ""], "1/1000": ["0", "001", ""]})

    def test_decimals_that_come_again_and_again(self):
        self.check({"1/3": ["0", "", "3"], "2/3": ["0", "", "6"], "1/7": ["0", "", "142857"], "1/9": ["0", "", "1"],
                    "22/7": ["3", "", "142857"], "1/11": ["0", "", "09"], "1/6": ["0", "1", "6"],
                    "1/70": ["0", "0", "142857"], "1/99": ["0", "", "01"], "1/90": ["0", "0", "1"],
                    "101/300": ["0", "33", "6"], "1/3000": ["0", "000", "3"]})

    def test_whole_values(self):
        self.check({"0": ["0", "", ""], "1": ["1", "", ""], "10": ["10", "", ""], "-120": ["120", "", ""],
                    "9" * 40: ["9" * 40, "", ""]})

    def test_values_below_0_without_their_sign(self):
        self.check({"-7/12": ["0", "58", "3"], "-5/4": ["1", "25", ""], "-22/7": ["3", "", "142857"],
                    "-" + "9" * 40: ["9" * 40, "", ""]})

    def test_60_and_61_decimals_that_end(self):
        self.check({"1/%d" % 2 ** 60: ["0", str(5 ** 60).zfill(60), ""], "1/%d" % 2 ** 61: -6,
                    "1/1" + "0" * 39: ["0", "0" * 38 + "1", ""],
                    "-3/%d" % 5 ** 56: ["0", str(3 * 2 ** 56).zfill(56), ""]})

    def test_60_and_61_decimals_that_come_again_and_again(self):
        self.assertEqual(expanded(1, 61)[1:], ["", str(10 ** 60 // 61).zfill(60)])
        self.check({"1/61": expanded(1, 61), "61/60": ["1", "01", "6"], "1/97": -6,
                    "1/67": ["0", "", str(10 ** 33 // 67).zfill(33)]})

    def test_60_and_61_decimals_of_both_sorts_together(self):
        self.check({"1/610": -6, "1/122": -6, "1/59": ["0", "", str(10 ** 58 // 59).zfill(58)],
                    "1/590": ["0", "0", str(10 ** 58 // 59).zfill(58)],
                    "1/5900": ["0", "00", str(10 ** 58 // 59).zfill(58)], "1/59000": -6,
                    "1/%d" % (3 * 2 ** 59): expanded(1, 3 * 2 ** 59), "1/%d" % (3 * 2 ** 60): -6})
        self.assertEqual([len(row) for row in expanded(1, 3 * 2 ** 59)], [1, 59, 1])

    def test_the_lower_numbers_from_1_to_400(self):
        for lower in range(1, 401):
            for upper in (1, lower - 1, 3 * lower + 2):
                value = oracle.one_form(Fraction(upper, lower))
                self.assertEqual(rows(last(expand(value))), expanded(upper, lower), value)

    def test_long_numbers(self):
        self.check({"1/" + "9" * 40: ["0", "", "0" * 39 + "1"], "1/" + "3" * 40: ["0", "", "0" * 39 + "3"],
                    "1" * 39 + "/2": ["5" * 38, "5", ""],
                    "1/1" + "0" * 38 + "1": -6})


class Refused(unittest.TestCase):
    def test_texts_that_are_none(self):
        for text in ([49] * 61, [49] * 100, [256], [-1], "1" * 40 + "/" + "2" * 20):
            self.assertEqual(last(expand(text)), [-1])

    def test_no_value_in_its_one_form(self):
        for text in ("", "-", "-0", "00", "01", "+1", "1/1", "2/4", "0/5", "1/0", "1/", "/2", "1/02", "1.5", "1 ", "a",
                     "1/2/3", [255], [49] * 60, "1" * 41, "-" + "1" * 41, "1/" + "3" * 41):
            self.assertEqual(last(expand(text)), [-5], text)

    def test_order_of_the_refusals(self):
        self.assertEqual(last(expand("2/122")), [-5])
        self.assertEqual(last(expand("1/97" + "0" * 57)), [-1])
        self.assertEqual(last(expand("1/97" + "0" * 56)), [-5])

    def test_a_refusal_leaves_everything_as_it_was(self):
        self.assertEqual(run(expand("1/97"), expand("x"), expand([256]), expand("1/3")),
                         [[-6], [-5], [-1], [0, 1, 48, 0, 1, 51]])


if __name__ == "__main__":
    unittest.main()
