"""The call 13 normal."""

import unittest

from tests.support import coin, habit, last, normal, run, words

COINS = [coin(1, 2, "EUR", "E"), coin(6, 0, "KKK", "k")]
ALL = habit(group=",", signs=31, coins=15, extras=63)
BEFORE = COINS + [ALL]


class Case(unittest.TestCase):
    def check(self, expected):
        answers = run(*BEFORE, *[normal(0, text) for text in expected])[len(BEFORE):]
        for text, answer in zip(expected, answers):
            wanted = expected[text]
            if isinstance(wanted, int):
                self.assertEqual(answer, [wanted], text)
            else:
                self.assertEqual((answer[0], answer[1], words(answer[3:])), (0,) + wanted, text)
                self.assertEqual(answer[2], len(answer) - 3, text)


class Normal(Case):
    def test_number_by_number(self):
        self.assertEqual(last(*BEFORE, normal(0, "(1.5 EUR)")), [0, 1, 4, 45, 51, 47, 50])
        self.assertEqual(last(*BEFORE, normal(0, "7")), [0, 0, 1, 55])

    def test_without_a_coin(self):
        self.check({"5": (0, "5"), "1,234.50": (0, "2469/2"), "-0": (0, "0"), "(12)": (0, "-12"), "7-": (0, "-7"),
                    "3 1/2": (0, "7/2"), "5%": (0, "1/20"), "12m": (0, "12000000"), "2/4": (0, "1/2"), "007": (0, "7"),
                    "5 dr": (0, "-5"), "5 cr": (0, "5"), "+.5": (0, "1/2"), "5.": (0, "5")})

    def test_with_a_coin(self):
        self.check({"5 EUR": (1, "5"), "E5": (1, "5"), "k 1/3": (6, "1/3"), "0KKK": (6, "0"), "-EUR 1.25": (1, "-5/4"),
                    "5kk": (6, "5000")})

    def test_the_longest_numbers(self):
        self.check({"9" * 30 + "b": (0, "9" * 30 + "0" * 9), "0." + "0" * 14 + "1%": (0, "1/1" + "0" * 17),
                    "9" * 30 + " 1/999999999": (0, str(int("9" * 30) * 999999999 + 1) + "/999999999"),
                    "9" * 30 + "." + "9" * 15: (0, "9" * 45 + "/1" + "0" * 15)})

    def test_by_the_habit_that_is_told(self):
        answers = run(habit(group=".", point=","), habit(group=",", point="."), normal(0, "1.234"), normal(1, "1.234"))
        self.assertEqual([words(answer[3:]) for answer in answers[2:]], ["1234", "617/500"])


class Refused(Case):
    def test_out_of_range(self):
        for by in (-1, 8, 10 ** 18, -10 ** 18):
            self.assertEqual(last(*BEFORE, normal(by, "5")), [-1])
        for text in ([49] * 61, [49] * 100, [256], [-1]):
            self.assertEqual(last(*BEFORE, normal(0, text)), [-1])

    def test_no_such_habit(self):
        self.assertEqual(last(normal(0, "5")), [-3])
        self.assertEqual(last(*BEFORE, normal(1, "5")), [-3])
        self.assertEqual(last(*[ALL] * 7, normal(7, "5")), [-3])
        self.assertEqual(last(*[ALL] * 8, normal(7, "5")), [0, 0, 1, 53])

    def test_the_place_of_the_fault(self):
        self.check({"": -1000, "x": -1000, "5 EU": -1004, "3 5/2": -1005, "1" * 60: -1030, "--5": -1001})
        unended = "(" + ",".join(["987"] * 10) + "." + "0" * 15 + " EUR"
        self.assertEqual(len(unended), 60)
        self.check({unended: -1060})

    def test_several_amounts(self):
        self.check({"5k": -7, "(0.5k)": -7, "0k": -7})

    def test_order_of_the_refusals(self):
        self.assertEqual(last(normal(8, "x")), [-1])
        self.assertEqual(last(normal(0, [256])), [-1])
        self.assertEqual(last(normal(0, "x")), [-3])

    def test_a_refusal_leaves_everything_as_it_was(self):
        answers = run(*BEFORE, normal(0, "x"), normal(0, "5k"), normal(1, "5"), normal(8, "5"), normal(0, "5E"))
        self.assertEqual(answers[3:], [[-1000], [-7], [-3], [-1], [0, 1, 1, 53]])


if __name__ == "__main__":
    unittest.main()
