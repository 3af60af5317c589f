"""The call 4 follow: what may follow a text."""

import unittest

from tests.support import coin, follow, habit, last, told

DIGITS = "0123456789"


def following(text, *before):
    return told(last(*before, follow(0, text)))


def rising(signs):
    return "".join(sorted(signs))


class Followers(unittest.TestCase):
    def test_the_plainest_habit(self):
        self.assertEqual(following("", habit()), DIGITS)
        self.assertEqual(following("5", habit()), "." + DIGITS)
        self.assertEqual(following("5.", habit()), DIGITS)
        self.assertEqual(following("0", habit()), ".")
        self.assertEqual(following("0", habit(extras=32)), "." + DIGITS)

    def test_the_answer_number_by_number(self):
        self.assertEqual(last(habit(), follow(0, "0")), [0, 1, 46])

    def test_all_that_may_begin_an_amount(self):
        by = habit(group=",", signs=31, coins=15, extras=63)
        self.assertEqual(following("", by), rising("(+-." + DIGITS))
        self.assertEqual(following("", coin(1, 2, "EUR", "$"), by), rising("(+-.$E" + DIGITS))
        self.assertEqual(following("(", coin(1, 2, "EUR", "$"), by), rising(".$E" + DIGITS))
        self.assertEqual(following("E", coin(1, 2, "EUR", "$"), by), "U")
        self.assertEqual(following("EUR", coin(1, 2, "EUR", "$"), by), rising(" ." + DIGITS))

    def test_all_that_may_follow_a_digit(self):
        by = habit(group=",", signs=31, coins=15, extras=63)
        self.assertEqual(following("5", coin(1, 2, "EUR", "$"), by), rising(" $%,-./Ebkm" + DIGITS))
        self.assertEqual(following("-5", coin(1, 2, "EUR", "$"), by), rising(" $%,./Ebkm" + DIGITS))
        self.assertEqual(following("(5", coin(1, 2, "EUR", "$"), by), rising(" $%),./Ebkm" + DIGITS))
        self.assertEqual(following("$5", coin(1, 2, "EUR", "$"), by), rising(" %,-./bkm" + DIGITS))
        self.assertEqual(following("5 ", coin(1, 2, "EUR", "$"), by), rising("$Ecd123456789"))
        self.assertEqual(following("5k", coin(1, 2, "EUR", "$"), by), rising(" $-E"))

    def test_groups(self):
        by = habit(group=",")
        self.assertEqual(following("123", by), ",." + DIGITS)
        self.assertEqual(following("1234", by), "." + DIGITS)
        self.assertEqual(following("1,", by), DIGITS)
        self.assertEqual(following("1,23", by), DIGITS)
        self.assertEqual(following("1,234", by), ",.")
        self.assertEqual(following("123", habit(group=",", must=1)), ",.")
        self.assertEqual(following("123", habit(group=",", kind=1)), "." + DIGITS)
        self.assertEqual(following("12", habit(group=",", kind=1)), ",." + DIGITS)
        self.assertEqual(following("1,23", habit(group=",", kind=1)), "," + DIGITS)
        self.assertEqual(following("1,234", habit(group=",", kind=1)), ".")

    def test_at_the_greatest_lengths(self):
        self.assertEqual(following("1" * 29, habit()), "." + DIGITS)
        self.assertEqual(following("1" * 30, habit()), ".")
        self.assertEqual(following(",".join(["123"] * 10), habit(group=",")), ".")
        self.assertEqual(following(",".join(["12"] + ["345"] * 9), habit(group=",")), ".")
        self.assertEqual(following(",".join(["12"] * 14), habit(group=",", kind=1)), DIGITS)
        self.assertEqual(following(",".join(["1"] + ["12"] * 13), habit(group=",", kind=1)), "," + DIGITS)
        self.assertEqual(following("1." + "1" * 14, habit()), DIGITS)
        self.assertEqual(following("1." + "1" * 15, habit()), "")
        self.assertEqual(following("1" * 7 + "/" + "1" * 8, habit(extras=1)), DIGITS)
        self.assertEqual(following("1" * 8, habit(group=",", must=1, extras=1)), "/")
        self.assertEqual(following("1" * 8 + "/" + "1" * 9, habit(extras=1)), "")

    def test_fractions(self):
        by = habit(extras=1, signs=2)
        self.assertEqual(following("3 ", by), "123456789")
        self.assertEqual(following("3 5", by), "/" + DIGITS)
        self.assertEqual(following("3 5/", by), "123456789")
        self.assertEqual(following("3 5/2", by), DIGITS)
        self.assertEqual(following("3 5/6", by), "-" + DIGITS)
        self.assertEqual(following("5/2", by), "-" + DIGITS)

    def test_nothing_behind_what_is_whole(self):
        self.assertEqual(following("(5)", habit(signs=4)), "")
        self.assertEqual(following("5-", habit(signs=2)), "")
        self.assertEqual(following("5 dr", habit(signs=8)), "")
        self.assertEqual(following("5 d", habit(signs=8)), "r")

    def test_nothing_behind_a_fault(self):
        for text in ("x", "5x", "1,,", ".", "\xff", "5 5"):
            self.assertEqual(last(habit(group=","), follow(0, text)), [0, 0], text)

    def test_a_coin_must_stand(self):
        euro = coin(1, 2, "EUR")
        self.assertEqual(following("", euro, habit(coins=17)), "E")
        self.assertEqual(following("", euro, habit(coins=20)), DIGITS)
        self.assertEqual(following("5", euro, habit(coins=20, signs=10)), rising(".E" + DIGITS))
        self.assertEqual(following("5", euro, habit(coins=24, signs=10)), rising(" ." + DIGITS))
        self.assertEqual(following("5 ", euro, habit(coins=24, signs=10)), "E")
        self.assertEqual(following("5EUR", euro, habit(coins=20, signs=10)), " -")

    def test_a_coin_must_stand_and_there_is_none(self):
        for coins in (17, 18, 20, 24, 31):
            self.assertEqual(following("", habit(coins=coins, signs=31, extras=63)), "")

    def test_a_text_of_60_bytes(self):
        text = ",".join(["123"] * 10) + "." + "5" * 15
        blank = "$$$ " + text
        self.assertEqual(len(blank), 59)
        by = habit(group=",", coins=2, signs=5)
        self.assertEqual(following("(" + blank, coin(1, 2, "EUR", "$$$"), by), ")")


class Refused(unittest.TestCase):
    def test_out_of_range(self):
        for by in (-1, 8, 10 ** 18):
            self.assertEqual(last(habit(), follow(by, "1")), [-1])
        for text in ([49] * 61, [256], [-1]):
            self.assertEqual(last(habit(), follow(0, text)), [-1])

    def test_no_such_habit(self):
        self.assertEqual(last(follow(0, "")), [-3])
        self.assertEqual(last(habit(), follow(1, "x")), [-3])
        self.assertEqual(last(follow(0, [256])), [-1])
        self.assertEqual(last(*[habit()] * 7, follow(7, "0")), [-3])
        self.assertEqual(last(*[habit()] * 8, follow(7, "0")), [0, 1, 46])


if __name__ == "__main__":
    unittest.main()
