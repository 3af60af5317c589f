"""The call 3 read: which texts say an amount by a habit, what they say, and the place of a fault."""

import unittest
from fractions import Fraction

from amounttexts.reading import in_order
from tests.support import coin, habit, last, read, run, said

COINS = [coin(1, 2, "EUR", "E"), coin(2, 2, "USD", "$")]
NINES = "9" * 30


class Case(unittest.TestCase):
    def check(self, by, expected, before=()):
        """expected: for each text its value if it is one amount without coin, or the whole answer."""
        texts = list(expected)
        while texts:
            some, texts = texts[:40], texts[40:]
            answers = run(*before, by, *[read(0, text) for text in some])[len(before) + 1:]
            for text, answer in zip(some, answers):
                wanted = expected[text]
                wanted = [(0, wanted)] if isinstance(wanted, str) else wanted
                self.assertEqual(said(answer), wanted, text)


class Wholes(Case):
    def test_not_in_groups(self):
        self.check(habit(), {"0": "0", "7": "7", "1234567": "1234567", NINES: NINES, NINES + "9": -1030,
                             "": -1000, "a": -1000, "12a": -1002, "1,234": -1001, " 1": -1000, "1 ": -1001})

    def test_by_threes(self):
        self.check(habit(group=","), {
            "1,234": "1234", "12,345": "12345", "123,456": "123456", "1,234,567": "1234567", "1234": "1234",
            "1,": -1002, "1,2": -1003, "1,23": -1004, "1,2345": -1005, "1,23,456": -1004, "1234,567": -1004,
            ",123": -1000, "1,,234": -1002, "12,345,67": -1009, "1,234,": -1006})

    def test_by_three_and_then_by_twos(self):
        self.check(habit(group=",", kind=1), {
            "1,234": "1234", "12,345": "12345", "1,23,456": "123456", "12,34,567": "1234567", "1234": "1234",
            "123,456": -1003, "1,234,567": -1005, "1,23": -1004, "1,23,45": -1007, "1,2,345": -1003,
            "1,23,45,678": "12345678"})

    def test_groups_that_must_stand(self):
        self.check(habit(group=",", must=1), {"1": "1", "12": "12", "123": "123", "1234": -1003, "1,234": "1234",
                                              "123,456": "123456", "1234,567": -1003})
        self.check(habit(group=",", kind=1, must=1), {"123": "123", "1234": -1003, "1,234": "1234", "123,456": -1003})

    def test_each_byte_between_groups(self):
        for group in " ',.":
            point = "." if group == "," else ","
            self.check(habit(group=group, point=point), {"1" + group + "234": "1234", "1" + group + "23": -1004})

    def test_no_byte_between_groups_is_not_the_byte_0(self):
        self.check(habit(), {"1\0" + "234": -1001})

    def test_at_most_30_digits(self):
        by_threes = ",".join(["123"] * 10)
        by_twos = ",".join(["1"] + ["23"] * 13 + ["456"])
        self.check(habit(group=","), {by_threes: "123" * 10, by_threes + ",": -1039, NINES: NINES,
                                      "1," + by_threes: -1037, "12," + by_threes: -1038})
        self.check(habit(group=",", kind=1), {by_twos: "1" + "23" * 13 + "456",
                                              "12" + by_twos[1:]: -1041, by_twos + ",": -1044})

    def test_zeros_in_front(self):
        self.check(habit(group=","), {"0": "0", "00": -1001, "01": -1001, "0,123": -1001, "0.5": "1/2", "00.5": -1001})
        self.check(habit(group=",", extras=32), {"00": "0", "01": "1", "0,123": "123", "000,007": "7",
                                                 "0" * 30: "0", "0" * 31: -1030, "00.5": "1/2"})


class DecimalTexts(Case):
    def test_decimals(self):
        self.check(habit(group=","), {
            "1.5": "3/2", "0.25": "1/4", "1,234.50": "2469/2", "7.000": "7", "1.234": "617/500", "12.": -1003,
            ".5": -1000, "1.5.5": -1003, "1.5,000": -1003, "1.-": -1002, "1,23.5": -1004})
        self.check(habit(point=","), {"1,5": "3/2", "1.5": -1001})

    def test_1_to_15_decimals(self):
        longest = Fraction(int(NINES + "5" * 15), 10 ** 15)
        self.check(habit(), {"0." + "0" * 14 + "1": "1/1000000000000000", "0." + "0" * 15 + "1": -1017,
                             NINES + "." + "5" * 15: "%d/%d" % (longest.numerator, longest.denominator)})

    def test_nothing_ahead_of_the_point(self):
        self.check(habit(extras=8), {".5": "1/2", ".": -1001, "5.": -1002, ".5.": -1002, ".k": -1001, "1.5": "3/2"})

    def test_nothing_behind_the_point(self):
        self.check(habit(extras=16), {"5.": "5", ".": -1000, "5.5": "11/2", "5..": -1002, ".5": -1000})
        self.check(habit(extras=16 + 8), {".": -1001, "5.": "5", ".5": "1/2"})
        self.check(habit(extras=16 + 4 + 2), {"5.k": "5000", "5.%": "1/20"})


class Signs(Case):
    def test_none(self):
        self.check(habit(), {"-5": -1000, "+5": -1000, "(5)": -1000, "5-": -1001, "5 dr": -1001, "5 cr": -1001})

    def test_a_minus_ahead(self):
        self.check(habit(signs=1), {"-5": "-5", "5": "5", "-0": "0", "--5": -1001, "-": -1001, "5-": -1001,
                                    "-(5)": -1001, "+5": -1000})

    def test_a_minus_behind(self):
        self.check(habit(signs=2), {"7-": "-7", "7": "7", "7--": -1002, "-7": -1000, "0-": "0", "-": -1000})
        self.check(habit(signs=3), {"-7-": -1002, "-7": "-7", "7-": "-7"})

    def test_brackets(self):
        self.check(habit(signs=4), {"(12)": "-12", "12": "12", "(12": -1003, "()": -1001, "((1))": -1001, "12)": -1002,
                                    "(12)1": -1004, "(0)": "0"})
        self.check(habit(signs=31), {"(-12)": -1001, "(12-)": -1003, "(12 dr)": -1003, "-(12)": -1001, "(12)-": -1004})

    def test_dr_and_cr(self):
        self.check(habit(signs=8), {"5 dr": "-5", "5 cr": "5", "5": "5", "5dr": -1001, "5 ": -1002, "5 d": -1003,
                                    "5 DR": -1002, "5 dr ": -1004, "0 dr": "0"})
        self.check(habit(signs=31), {"-5 dr": -1002, "+5 cr": -1002, "5- dr": -1002})

    def test_a_plus_ahead(self):
        self.check(habit(signs=16), {"+5": "5", "5": "5", "-5": -1000, "+-5": -1001, "+": -1001, "5+": -1001})


class CoinsTold(Case):
    def check_coins(self, coins, expected, **more):
        self.check(habit(coins=coins, **more), expected, COINS)

    def test_no_coin_may_stand(self):
        self.check_coins(0, {"5": "5", "EUR5": -1000, "5EUR": -1001, "$ 5": -1000})

    def test_ahead(self):
        self.check_coins(1, {"EUR5": [(1, "5")], "E5": [(1, "5")], "$5": [(2, "5")], "5": "5", "EUR 5": -1003,
                             "5EUR": -1001, "EU5": -1002, "EUREUR5": -1003, "EUR": -1003, "EUR5EUR": -1004})

    def test_ahead_and_a_blank(self):
        self.check_coins(2, {"EUR 5": [(1, "5")], "$ 5": [(2, "5")], "$5": -1001, "$  5": -1002, "$ ": -1002})
        self.check_coins(3, {"EUR 5": [(1, "5")], "EUR5": [(1, "5")]})

    def test_behind(self):
        self.check_coins(4, {"5EUR": [(1, "5")], "5$": [(2, "5")], "5 EUR": -1001, "$5": -1000, "5EURO": -1004,
                             "5EU": -1003, "5E": [(1, "5")], "5$$": -1002})

    def test_behind_a_blank(self):
        self.check_coins(8, {"5 EUR": [(1, "5")], "5 E": [(1, "5")], "5EUR": -1001, "5  EUR": -1002, "5 ": -1002})

    def test_not_on_both_sides(self):
        self.check_coins(15, {"EUR5EUR": -1004, "$ 5 $": -1003, "EUR 5EUR": -1005})

    def test_a_coin_must_stand(self):
        self.check_coins(31, {"5": -1001, "EUR5": [(1, "5")], "5 $": [(2, "5")], "EUR5 $": -1004})
        self.check_coins(17, {"5": -1000, "E5": [(1, "5")], "": -1000})
        self.check_coins(24, {"5": -1001, "5 E": [(1, "5")], "E5": -1000, "5-": -1001, "5 dr": -1002}, signs=31)

    def test_a_coin_must_stand_and_there_is_none(self):
        self.check(habit(coins=31, signs=31, extras=63), {"": -1000, "5": -1000, "(5": -1000, "EUR5": -1000})

    def test_signs_around_coins(self):
        self.check_coins(15, {"-$5": [(2, "-5")], "$-5": -1001, "(EUR 5)": [(1, "-5")], "5 EUR-": [(1, "-5")],
                              "5- EUR": -1002, "5 EUR dr": [(1, "-5")], "+5$": [(2, "5")], "5 dr EUR": -1004,
                              "$5-": [(2, "-5")], "$ 5 cr": [(2, "5")], "(5)EUR": -1003}, signs=31)

    def test_the_ways_of_writing_that_the_document_begins_with(self):
        self.check(habit(group=".", point=",", coins=8), {"1.234,50 EUR": [(1, "2469/2")]}, COINS)
        self.check(habit(group=",", coins=2), {"$ 1,234.5": [(2, "2469/2")]}, COINS)
        self.check(habit(signs=6, extras=7), {"(12)": "-12", "7-": "-7", "3 1/2": "7/2", "5%": "1/20", "12k": "12000"})


class FractionTexts(Case):
    def test_not_let(self):
        self.check(habit(), {"1/2": -1001, "3 1/2": -1001})

    def test_with_and_without_a_whole_part(self):
        self.check(habit(extras=1, signs=31), {
            "1/2": "1/2", "3 1/2": "7/2", "5/2": "5/2", "2/4": "1/2", "4/2": "2", "0 1/2": "1/2", "-3 1/2": "-7/2",
            "3 2/4": "7/2", "3 1/2-": "-7/2", "3 1/2 dr": "-7/2", "(1/2)": "-1/2",
            "1/": -1002, "/2": -1000, "1//2": -1002, "1/2/3": -1003, "3  1/2": -1002, "3 1 1/2": -1003})

    def test_up_and_down_do_not_begin_with_0(self):
        self.check(habit(extras=1), {"0/2": -1001, "1/0": -1002, "01/2": -1001, "1/02": -1002, "3 0/2": -1002})
        self.check(habit(extras=33), {"01/2": -1002, "00 1/2": "1/2"})

    def test_up_is_less_than_down_behind_a_whole_part(self):
        self.check(habit(extras=1, signs=2), {
            "3 5/2": -1005, "3 5/5": -1005, "3 5/6": "23/6", "3 5/23": "74/23", "3 5/2-": -1005,
            "3 5/2 ": -1005, "3 5/": -1004, "3 5": -1003})

    def test_digits_of_up_and_down(self):
        self.check(habit(extras=1), {
            "12345678/987654321": "1371742/109739369", "123456789/2": -1009, "1/123456789": "1/123456789",
            "1/1234567890": -1011, "3 123456789/2": -1010, "3 99999999/99999999": -1019,
            "3 99999999/100000000": "399999999/100000000"})

    def test_whole_parts_in_groups(self):
        self.check(habit(group=" ", must=1, extras=1), {
            "1 234 5/6": "7409/6", "1 234/567": "89/63", "1234/5": "1234/5", "1234 1/2": -1004,
            "1 2345/9999": "12344/9999",
            "1 234": "1234", "1 23": -1004, "123 456 789": "123456789", "1 234 567/568": "701479/568"})

    def test_no_scale_or_percent_behind(self):
        self.check(habit(extras=63), {"1/2k": -1003, "1/2%": -1003, "1.5 1/2": -1003, "1/2.5": -1003})

    def test_with_coins(self):
        self.check(habit(extras=1, coins=15), {"1/2 EUR": [(1, "1/2")], "$3 1/2": [(2, "7/2")], "3 5/2 EUR": -1005,
                                               "3 $": [(2, "3")]}, COINS)


class PercentsAndScales(Case):
    def test_not_let(self):
        self.check(habit(), {"5%": -1001, "5k": -1001, "5m": -1001, "5b": -1001})

    def test_percents(self):
        self.check(habit(extras=2), {"5%": "1/20", "12.5%": "1/8", "100%": "1", "5%%": -1002, "%": -1000, "5k": -1001,
                                     "0%": "0"})

    def test_scales(self):
        self.check(habit(extras=4, group=","), {
            "12k": "12000", "1.5m": "1500000", "2b": "2000000000", "0.0001k": "1/10", "1,234k": "1234000", "k": -1000,
            "5kk": -1002, "5K": -1001, "5%": -1001, "5k5": -1002, "1,2k": -1003})

    def test_with_coins_and_signs(self):
        self.check(habit(extras=6, coins=15, signs=31), {
            "5k EUR": [(1, "5000")], "5kEUR": [(1, "5000")], "$5m": [(2, "5000000")], "5EURk": -1004,
            "(5%)": "-1/20", "5k-": "-5000", "5-k": -1002}, COINS)


class SeveralAmounts(Case):
    def test_a_mark_that_is_a_scale(self):
        self.check(habit(extras=4, coins=4), {"5k": [(0, "5000"), (3, "5")], "5kk": [(3, "5000")], "5m": "5000000"},
                   [coin(3, 2, "KKK", "k")])

    def test_a_mark_that_is_dr(self):
        self.check(habit(signs=8, coins=8), {"5 dr": [(0, "-5"), (4, "5")], "5 dr dr": [(4, "-5")],
                                             "5 dr cr": [(4, "5")]}, [coin(4, 2, "DRA", "dr")])

    def test_by_the_coins_numbers(self):
        coins = [coin(6, 2, "AAA", "k"), coin(2, 2, "BBB", "kk")]
        self.check(habit(extras=4, coins=4), {"5kk": [(2, "5"), (6, "5000")], "5k": [(0, "5000"), (6, "5")]}, coins)

    def test_a_mark_that_is_a_scale_and_another_mark(self):
        coins = [coin(1, 2, "ABC", "kAB"), coin(2, 2, "KAB", "AB")]
        self.check(habit(extras=4, coins=4), {"5kAB": [(1, "5"), (2, "5000")], "5AB": [(2, "5")]}, coins)

    def test_by_the_coins_numbers_and_then_by_the_values_each_once(self):
        amounts = [(2, (1, 2)), (0, (7, 1)), (2, (-3, 1)), (2, (1, 3)), (0, (-7, 2)), (2, (1, 2)), (1, (9, 1))]
        self.assertEqual(in_order(amounts), [(0, (-7, 2)), (0, (7, 1)), (1, (9, 1)), (2, (-3, 1)), (2, (1, 3)),
                                             (2, (1, 2))])

    def test_amounts_of_unlike_coins_are_several_though_their_values_are_alike(self):
        self.check(habit(signs=8, coins=8, extras=4), {"0k": [(0, "0")], "5 cr": [(0, "5"), (4, "5")]},
                   [coin(4, 2, "CRA", "cr")])

    def test_coins_whose_texts_begin_alike(self):
        coins = [coin(1, 2, "EUR", "E"), coin(2, 2, "EUS", "EU"), coin(3, 2, "EEE", "EUX")]
        self.check(habit(coins=15), {"5E": [(1, "5")], "5EU": [(2, "5")], "5EUR": [(1, "5")], "5EUX": [(3, "5")],
                                     "5EE": -1003, "EUX5": [(3, "5")], "EU5": [(2, "5")], "E5": [(1, "5")]}, coins)


class Sums(unittest.TestCase):
    """Each part of a sum lets its own way of writing and no other."""

    def check(self, name, total, texts, before=(), **more):
        for number in total:
            answers = run(*before, habit(**{name: number}, **more), *[read(0, text) for text in texts])
            for (text, bit), answer in zip(texts.items(), answers[len(before) + 1:]):
                self.assertEqual(answer[0] == 0, number & bit == bit, (name, number, text))

    def test_signs(self):
        self.check("signs", range(32), {"-5": 1, "5-": 2, "(5)": 4, "5 dr": 8, "5 cr": 8, "+5": 16, "5": 0})

    def test_coins(self):
        texts = {"EUR5": 1, "E5": 1, "$ 5": 2, "5EUR": 4, "5 EUR": 8}
        self.check("coins", [number for number in range(32) if number != 16], texts, COINS)
        self.check("coins", range(16), {"5": 0}, COINS)

    def test_extras(self):
        texts = {"1/2": 1, "3 1/2": 1, "5%": 2, "5k": 4, "5m": 4, "5b": 4, ".5": 8, "5.": 16, "05": 32, "5": 0,
                 ".5%": 10, "5.k": 20, "05.": 48, "00 1/2": 33}
        self.check("extras", range(64), texts)


class Lengths(Case):
    def test_texts_of_0_and_of_60_bytes(self):
        sixty = "(" + ",".join(["123"] * 10) + "." + "5" * 15 + " EUR"
        self.assertEqual(len(sixty), 60)
        self.check(habit(group=",", signs=4, coins=8), {"": -1000, sixty: -1060, sixty[:-1] + ")": -1059}, COINS)
        whole = sixty[1:] + "-"
        self.assertEqual(len(whole), 60)
        answer = said(last(*COINS, habit(group=",", signs=2, coins=8), read(0, whole)))
        self.assertEqual([amount[0] for amount in answer], [1])

    def test_bytes_above_127(self):
        self.check(habit(), {"\xff": -1000, "1\x80": -1001})


class Refused(Case):
    def test_out_of_range(self):
        for by in (-1, 8, 10 ** 18, -10 ** 18):
            self.assertEqual(last(habit(), read(by, "1")), [-1])
        for text in ([49] * 61, [49] * 100, [256], [-1], [49, 10 ** 18]):
            self.assertEqual(last(habit(), read(0, text)), [-1])
        self.assertEqual(last(habit(), read(0, [255])), [-1000])

    def test_no_such_habit(self):
        self.assertEqual(last(read(0, "1")), [-3])
        self.assertEqual(last(habit(), read(1, "x")), [-3])
        self.assertEqual(last(*[habit()] * 7, read(7, "1")), [-3])
        self.assertEqual(last(*[habit()] * 8, read(7, "1")), [0, 1, 0, 1, 49])

    def test_order_of_the_refusals(self):
        self.assertEqual(last(read(0, [256])), [-1])
        self.assertEqual(last(read(0, "x")), [-3])

    def test_the_answer_number_by_number(self):
        self.assertEqual(last(habit(signs=1), read(0, "-1.5")), [0, 1, 0, 4, 45, 51, 47, 50])


if __name__ == "__main__":
    unittest.main()
