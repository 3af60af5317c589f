"""The call 7 rewrite."""

import unittest

from tests.support import coin, habit, last, rewrite, run, style, told

COINS = [coin(1, 2, "EUR", "E"), coin(2, 2, "USD", "$")]
POINTS_BETWEEN = habit(group=".", point=",", signs=31, coins=15, extras=63)
COMMAS_BETWEEN = habit(group=",", point=".", signs=31, coins=15, extras=63)


def rewritten(text, in_style):
    """A text by the habit 0 in a style of the habit 1."""
    return told(last(*COINS, POINTS_BETWEEN, COMMAS_BETWEEN, in_style, rewrite(0, 0, text)))


class Rewritten(unittest.TestCase):
    def test_the_ways_of_writing(self):
        amount = style(of=1, grouped=1, place=1, mark=1, form=0, decimals=2)
        for text, wanted in (("1.234,50 EUR", "E1,234.50"), ("(USD 5)", "-$5.00"), ("$7k-", "-$7,000.00"),
                             ("3 1/2$ dr", "-$3.50"), ("+5%E", "E0.05"), ("0 EUR-", "E0.00")):
            self.assertEqual(rewritten(text, amount), wanted, text)

    def test_each_form(self):
        for form, wanted in ((0, "1234.500"), (1, "1234.5"), (2, "1234 1/2"), (3, "123450%"), (4, "1.2345k")):
            self.assertEqual(rewritten("1.234,5", style(of=1, form=form, decimals=3)), wanted)

    def test_each_sign(self):
        for sign, below, above in ((0, "-5", "5"), (1, "5-", "5"), (2, "(5)", "5"), (3, "5 dr", "5 cr")):
            self.assertEqual(rewritten("5 dr", style(of=1, sign=sign)), below)
            self.assertEqual(rewritten("5 cr", style(of=1, sign=sign)), above)

    def test_in_a_style_of_the_same_habit(self):
        self.assertEqual(told(last(habit(group=",", signs=1), style(grouped=1), rewrite(0, 0, "1234567"))), "1,234,567")


class Refused(unittest.TestCase):
    def test_out_of_range(self):
        before = [POINTS_BETWEEN, style()]
        for by, to in ((-1, 0), (8, 0), (0, -1), (0, 8), (10 ** 18, 0), (0, 10 ** 18)):
            self.assertEqual(last(*before, rewrite(by, to, "5")), [-1])
        for text in ([49] * 61, [256], [-1]):
            self.assertEqual(last(*before, rewrite(0, 0, text)), [-1])

    def test_no_such_style_or_habit(self):
        self.assertEqual(last(POINTS_BETWEEN, rewrite(0, 0, "5")), [-3])
        self.assertEqual(last(POINTS_BETWEEN, style(), rewrite(1, 0, "5")), [-3])
        self.assertEqual(last(POINTS_BETWEEN, style(), rewrite(0, 1, "5")), [-3])
        self.assertEqual(last(rewrite(0, 0, "5")), [-3])
        self.assertEqual(last(*[COMMAS_BETWEEN] * 7, *[style()] * 8, rewrite(7, 7, "5")), [-3])
        self.assertEqual(last(*[COMMAS_BETWEEN] * 8, *[style()] * 7, rewrite(7, 7, "5")), [-3])
        self.assertEqual(last(*[COMMAS_BETWEEN] * 8, *[style()] * 8, rewrite(7, 7, "5")), [0, 1, 53])

    def test_the_place_of_the_fault(self):
        for text, wanted in (("", -1000), ("x", -1000), ("5.5", -1003), ("5x", -1001), ("3 5/2", -1005),
                             ("3 5/2 ", -1005)):
            self.assertEqual(last(POINTS_BETWEEN, style(), rewrite(0, 0, text)), [wanted], text)

    def test_several_amounts(self):
        before = [coin(1, 2, "KKK", "k"), COMMAS_BETWEEN, style()]
        self.assertEqual(last(*before, rewrite(0, 0, "5k")), [-7])

    def test_what_the_style_can_not_tell(self):
        for text, in_style in (("5 EUR", style(of=1)), ("5", style(of=1, place=1)), ("1/3", style(of=1, form=1)),
                               ("0,5", style(of=1, form=0)), ("9" * 30 + "k", style(of=1, form=0))):
            self.assertEqual(rewritten(text, in_style), -6, text)

    def test_order_of_the_refusals(self):
        marked = [coin(1, 2, "KKK", "k")]
        self.assertEqual(last(rewrite(0, 8, "x")), [-1])
        self.assertEqual(last(rewrite(0, 0, [256])), [-1])
        self.assertEqual(last(COMMAS_BETWEEN, rewrite(0, 0, "x")), [-3])
        self.assertEqual(last(COMMAS_BETWEEN, style(), rewrite(1, 0, "x")), [-3])
        self.assertEqual(last(*marked, COMMAS_BETWEEN, style(place=1), rewrite(0, 0, "5k")), [-7])
        self.assertEqual(last(COMMAS_BETWEEN, style(place=1), rewrite(0, 0, "5x")), [-1001])

    def test_a_refusal_leaves_everything_as_it_was(self):
        answers = run(POINTS_BETWEEN, style(), rewrite(0, 0, "5x"), rewrite(0, 0, "1/3"), rewrite(0, 0, "5,50"))
        self.assertEqual(answers[2:4], [[-1001], [-6]])
        self.assertEqual(told(answers[4]), "5,5")


if __name__ == "__main__":
    unittest.main()
