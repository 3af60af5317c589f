"""The call 6 show: amounts in styles, and values in their one form."""

import unittest

from tests.support import coin, habit, last, read, run, said, show, style, told

ALL = habit(group=",", signs=31, coins=15, extras=63)
COINS = [coin(1, 2, "EUR"), coin(2, 2, "USD", "$")]
NINES = "9" * 30


class Case(unittest.TestCase):
    def check(self, by, in_style, expected, of=0):
        calls = [show(0, of, value) for value in expected]
        answers = run(*COINS, by, in_style, *calls)[4:]
        for (value, wanted), answer in zip(expected.items(), answers):
            self.assertEqual(told(answer), wanted, value)


class Forms(Case):
    def test_with_so_many_decimals_as_are_told(self):
        self.check(ALL, style(form=0, decimals=2), {
            "0": "0.00", "5": "5.00", "1/2": "0.50", "1/20": "0.05", "2469/2": "1234.50", "-1/4": "-0.25",
            "1/8": -6, "1/3": -6, NINES: NINES + ".00", "1" + "0" * 30: -6})
        self.check(ALL, style(form=0, decimals=0), {"0": "0", "5": "5", "1/2": -6, "-7": "-7"})
        self.check(ALL, style(form=0, decimals=15), {"1/1000000000000000": "0." + "0" * 14 + "1",
                                                     "1/10000000000000000": -6, "1": "1." + "0" * 15})

    def test_with_as_few_decimals_as_can_be(self):
        self.check(ALL, style(form=1, decimals=3), {
            "0": "0", "5": "5", "1/2": "0.5", "1/8": "0.125", "101/100": "1.01", "100": "100", "-7/4": "-1.75",
            "1/3": -6, "1/1000000000000000": "0." + "0" * 14 + "1", "1/32768": "0.000030517578125",
            "1/65536": -6, NINES: NINES, "1" + "0" * 30: -6})

    def test_as_a_fraction(self):
        self.check(ALL, style(form=2), {
            "0": "0", "5": "5", "1/2": "1/2", "7/2": "3 1/2", "-7/2": "-3 1/2", "-1/3": "-1/3", "100/3": "33 1/3",
            "99999999/100000000": "99999999/100000000", "100000000/100000001": -6, "1/999999999": "1/999999999",
            "1/1000000000": -6, "1000000000/999999999": "1 1/999999999", NINES: NINES, "1" + "0" * 30: -6,
            "2" + "0" * 28 + "1/2": "1" + "0" * 29 + " 1/2", "2" + "0" * 29 + "1/2": -6})

    def test_as_a_percent(self):
        self.check(ALL, style(form=3), {
            "0": "0%", "1/20": "5%", "1/8": "12.5%", "1": "100%", "-1/2": "-50%", "1/3": -6, "3/2": "150%",
            "1/100000000000000000": "0." + "0" * 14 + "1%", "1/1000000000000000000": -6,
            "1" + "0" * 27: "1" + "0" * 29 + "%", "1" + "0" * 28: -6})

    def test_with_the_greatest_scale(self):
        self.check(ALL, style(form=4), {
            "0": "0", "1": "1", "999": "999", "1000": "1k", "1500": "1.5k", "999999": "999.999k", "1000000": "1m",
            "1234567": "1.234567m", "999999999": "999.999999m", "1000000000": "1b", "2500000000": "2.5b",
            "1" + "0" * 12: "1000b", "1/2": "0.5", "-1500": "-1.5k", "1999/2": "999.5", "2001/2": "1.0005k",
            "10000000001/10000000": "1.0000000001k", "1/3": -6, "1" + "0" * 38: "1" + "0" * 29 + "b",
            "1" + "0" * 39: -6, "1000000000000001/1000000": "1.000000000000001b",
            "10000000000000001/10000000": -6})

    def test_a_scale_with_too_many_decimals_is_not_told_with_a_lesser_one(self):
        value = "10000000000000001/10000000000000"
        self.check(ALL, style(form=1), {value: "1000.0000000000001"})
        self.check(ALL, style(form=4), {value: -6})


class Groups(Case):
    def test_by_threes(self):
        self.check(ALL, style(grouped=1), {
            "0": "0", "12": "12", "123": "123", "1234": "1,234", "123456": "123,456", "1234567": "1,234,567",
            "2469/2": "1,234.5", "-1234": "-1,234", NINES: ",".join(["999"] * 10)})

    def test_by_three_and_then_by_twos(self):
        self.check(habit(group="'", kind=1, signs=1), style(grouped=1), {
            "123": "123", "1234": "1'234", "12345": "12'345", "123456": "1'23'456", "1234567": "12'34'567",
            "12345678901/10": "1'23'45'67'890.1"})

    def test_not_grouped(self):
        self.check(ALL, style(grouped=0), {"1234567": "1234567"})

    def test_in_each_form(self):
        self.check(ALL, style(grouped=1, form=0, decimals=1), {"1234": "1,234.0"})
        self.check(ALL, style(grouped=1, form=2), {"2469/2": "1,234 1/2", "1234": "1,234", "1234/12345": "1234/12345"})
        self.check(ALL, style(grouped=1, form=3), {"1234": "123,400%"})
        self.check(ALL, style(grouped=1, form=4), {"1" + "0" * 13: "10,000b", "1234567": "1.234567m"})
        self.check(habit(group=" ", signs=1, extras=1), style(grouped=1, form=2), {"2469/2": "1 234 1/2"})

    def test_the_point_of_the_habit(self):
        self.check(habit(group=".", point=",", signs=1), style(grouped=1), {"2469/2": "1.234,5"})


class Signs(Case):
    def test_a_minus_ahead(self):
        self.check(ALL, style(sign=0), {"-5": "-5", "5": "5", "0": "0"})

    def test_a_minus_behind(self):
        self.check(ALL, style(sign=1), {"-5": "5-", "5": "5", "0": "0"})

    def test_brackets(self):
        self.check(ALL, style(sign=2), {"-5": "(5)", "5": "5", "0": "0"})

    def test_dr_and_cr(self):
        self.check(ALL, style(sign=3), {"-5": "5 dr", "5": "5 cr", "0": "0 cr"})


class Coins(Case):
    def test_each_place(self):
        for place, text, below in ((1, "USD5", "(USD5)"), (2, "USD 5", "(USD 5)"), (3, "5USD", "(5USD)"),
                                   (4, "5 USD", "(5 USD)")):
            self.check(ALL, style(place=place, sign=2), {"5": text, "-5": below}, of=2)

    def test_the_sign_stands_outside_the_coin(self):
        self.check(ALL, style(place=1, sign=0), {"-5": "-USD5"}, of=2)
        self.check(ALL, style(place=3, sign=1), {"-5": "5USD-"}, of=2)
        self.check(ALL, style(place=4, sign=3), {"-5": "5 USD dr", "5": "5 USD cr"}, of=2)

    def test_the_mark(self):
        self.check(ALL, style(place=2, mark=1), {"5": "$ 5"}, of=2)
        self.check(ALL, style(place=2, mark=0), {"5": "USD 5"}, of=2)

    def test_a_coin_without_a_mark_is_told_by_its_name(self):
        self.check(ALL, style(place=4, mark=1), {"5": "5 EUR"}, of=1)

    def test_each_form_with_a_coin(self):
        self.check(ALL, style(place=4, form=3), {"1/20": "5% EUR"}, of=1)
        self.check(ALL, style(place=3, form=4), {"5000": "5kEUR"}, of=1)
        self.check(ALL, style(place=2, form=2), {"7/2": "EUR 3 1/2"}, of=1)

    def test_a_coin_without_a_place_and_a_place_without_a_coin(self):
        self.check(ALL, style(place=0), {"5": -6, "0": -6}, of=1)
        for place in range(1, 5):
            self.check(ALL, style(place=place), {"5": -6}, of=0)

    def test_a_coin_told_anew(self):
        answers = run(*COINS, ALL, style(place=1, mark=1), show(0, 2, "5"), coin(2, 2, "USD", "S!"), show(0, 2, "5"),
                      coin(2, 2, "GBP"), show(0, 2, "5"))
        self.assertEqual([told(answers[at]) for at in (4, 6, 8)], ["$5", "S!5", "GBP5"])


class GivenBack(unittest.TestCase):
    def test_reading_gives_back_what_was_shown(self):
        values = ["0", "5", "-5", "1/2", "-7/2", "1234567", "-2469/2", "1/8", "1500", "3000000000", "1/3", "-22/7",
                  NINES]
        for by in (ALL, habit(group=" ", kind=1, must=1, point=",", signs=31, coins=15, extras=7)):
            for form in range(5):
                for sign in range(4):
                    for place in range(5):
                        self.check_style(by, values, style(0, 1, sign, place, 1, form, 4))

    def check_style(self, by, values, in_style):
        of = 2 if in_style[5] else 0
        shown = run(*COINS, by, in_style, *[show(0, of, value) for value in values])
        self.assertEqual(shown[3], [0, 0])
        for value, answer in zip(values, shown[4:]):
            if answer != [-6]:
                self.assertEqual(said(last(*COINS, by, read(0, told(answer)))), [(of, value)])


class Refused(unittest.TestCase):
    def test_out_of_range(self):
        before = COINS + [ALL, style()]
        for by, of in ((-1, 0), (8, 0), (0, -1), (0, 7), (10 ** 18, 0), (0, -10 ** 18)):
            self.assertEqual(last(*before, show(by, of, "5")), [-1])
        for value in ([49] * 61, [256], [-1], a_long_value()):
            self.assertEqual(last(*before, show(0, 0, value)), [-1])

    def test_no_such_style_or_coin(self):
        self.assertEqual(last(ALL, show(0, 0, "5")), [-3])
        self.assertEqual(last(ALL, style(place=1), show(1, 0, "5")), [-3])
        self.assertEqual(last(ALL, style(place=1), show(0, 1, "5")), [-3])
        self.assertEqual(last(*COINS, ALL, style(place=1), show(0, 6, "5")), [-3])
        self.assertEqual(last(ALL, *[style()] * 7, show(7, 0, "5")), [-3])
        self.assertEqual(last(ALL, *[style()] * 8, show(7, 0, "5")), [0, 1, 53])
        self.assertEqual(last(coin(6, 2, "EUR"), ALL, style(place=3), show(0, 6, "5")), [0, 4, 53, 69, 85, 82])

    def test_no_value_in_its_one_form(self):
        for value in ("", "-", "-0", "00", "01", "+1", "1/1", "2/4", "4/2", "0/5", "1/0", "1/", "/2", "1/02", "01/2",
                      "1/-2", "--1", "1.5", "1 ", " 1", "1/2/3", "a", "-/2", "0/1", [49, 0], [255], "1" * 41,
                      "1/" + "1" * 41, "-" + "1" * 41):
            self.assertEqual(last(ALL, style(), show(0, 0, value)), [-5], value)

    def test_numbers_of_40_digits(self):
        self.assertEqual(last(ALL, style(form=4), show(0, 0, "1" + "0" * 39)), [-6])
        self.assertEqual(told(last(ALL, style(form=4), show(0, 0, "-1" + "0" * 38))), "-1" + "0" * 29 + "b")
        self.assertEqual(last(ALL, style(), show(0, 0, "1/" + "9" * 40)), [-6])
        self.assertEqual(last(ALL, style(), show(0, 0, "-1/1" + "0" * 39)), [-6])

    def test_order_of_the_refusals(self):
        self.assertEqual(last(ALL, show(0, 7, "x")), [-1])
        self.assertEqual(last(ALL, show(0, 0, "x")), [-3])
        self.assertEqual(last(ALL, style(place=1), show(0, 0, "x")), [-5])


def a_long_value():
    """Both numbers have at most 40 digits, but the text has more than 60 bytes."""
    return [49] * 40 + [47] + [50] * 20


if __name__ == "__main__":
    unittest.main()
