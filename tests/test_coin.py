"""The call 0 coin."""

import unittest

from tests.support import COIN, call, coin, habit, last, read, run, said

READS_COINS = habit(coins=15)


class Accepted(unittest.TestCase):
    def test_answers_how_many_coins_there_are(self):
        self.assertEqual(run(coin(3, 2, "EUR"), coin(1, 0, "JPY", "Y"), coin(6, 4, "USD", "$")),
                         [[0, 1], [0, 2], [0, 3]])

    def test_a_coin_told_anew_is_the_coin_of_this_number_now(self):
        answers = run(READS_COINS, coin(1, 2, "EUR", "E"), coin(1, 2, "USD", "$"),
                      read(0, "5USD"), read(0, "5$"), read(0, "5EUR"), read(0, "5E"))
        self.assertEqual(answers[1:3], [[0, 1], [0, 1]])
        self.assertEqual([said(answer) for answer in answers[3:]], [[(1, "5")], [(1, "5")], -1001, -1001])

    def test_a_coin_told_anew_may_keep_or_swap_its_own_texts(self):
        self.assertEqual(run(coin(1, 2, "EUR", "E"), coin(1, 3, "EUR", "E"), coin(1, 2, "EUR", "USD"),
                             coin(1, 2, "USD", "EUR")), [[0, 1]] * 4)

    def test_a_text_given_up_is_free_for_another_coin(self):
        self.assertEqual(run(coin(1, 2, "EUR", "E"), coin(1, 2, "USD", ""), coin(2, 2, "EUR", "E")),
                         [[0, 1], [0, 1], [0, 2]])

    def test_several_coins_may_have_no_mark(self):
        self.assertEqual(run(coin(1, 2, "EUR"), coin(2, 2, "USD"), coin(3, 2, "GBP")), [[0, 1], [0, 2], [0, 3]])

    def test_all_six_numbers_and_all_digits(self):
        names = ("AAA", "BBB", "CCC", "DDD", "EEE", "ZZZ")
        calls = [coin(number + 1, min(number, 4), name) for number, name in enumerate(names)]
        self.assertEqual(run(*calls), [[0, number] for number in range(1, 7)])

    def test_bytes_that_marks_may_have(self):
        let = [byte for byte in range(33, 127) if chr(byte) not in "0123456789+-().,'%/"]
        for byte in let:
            self.assertEqual(last(coin(1, 2, "EUR", [byte])), [0, 1], byte)
        self.assertEqual(last(coin(1, 2, "EUR", "!~k")), [0, 1])

    def test_an_amount_is_read_by_the_name_and_by_the_mark(self):
        answers = run(READS_COINS, coin(2, 2, "EUR", "e!"), read(0, "EUR7"), read(0, "e! 7"))
        self.assertEqual([said(answer) for answer in answers[2:]], [[(2, "7")], [(2, "7")]])


class Refused(unittest.TestCase):
    def test_numbers_out_of_range(self):
        for numbers in ([0, 2], [7, 2], [-1, 2], [10 ** 18, 2], [1, -1], [1, 5], [1, -10 ** 18]):
            self.assertEqual(last(call(COIN, numbers, "EUR", "")), [-1], numbers)

    def test_texts_that_are_none(self):
        for name, mark in (([65] * 61, ""), ("EUR", [36] * 61), ([65, 65, 256], ""), ([65, 65, -1], ""),
                           ("EUR", [256]), ("EUR", [-10 ** 18])):
            self.assertEqual(last(coin(1, 2, name, mark)), [-1], (name, mark))

    def test_names_that_are_not_three_capitals(self):
        for name in ("", "EU", "EURO", "eur", "EU1", "EU ", "@AA", "AA[", [65] * 60, [65, 65, 255]):
            self.assertEqual(last(coin(1, 2, name)), [-4], name)

    def test_marks_that_can_not_be(self):
        for byte in list(range(33)) + [ord(sign) for sign in "0123456789+-().,'%/"] + list(range(127, 256)):
            self.assertEqual(last(coin(1, 2, "EUR", [byte])), [-4], byte)
            self.assertEqual(last(coin(1, 2, "EUR", [36, 36, byte])), [-4], byte)
        for mark in ("$$$$", [36] * 60):
            self.assertEqual(last(coin(1, 2, "EUR", mark)), [-4])

    def test_texts_of_another_coin(self):
        first = coin(1, 2, "EUR", "USD")
        for name, mark in (("EUR", ""), ("USD", ""), ("GBP", "EUR"), ("GBP", "USD")):
            self.assertEqual(last(first, coin(2, 2, name, mark)), [-5], (name, mark))
        self.assertEqual(last(coin(1, 2, "EUR", "$"), coin(2, 2, "USD", "$")), [-5])

    def test_a_mark_that_is_its_own_name(self):
        self.assertEqual(last(coin(1, 2, "EUR", "EUR")), [-5])

    def test_order_of_the_refusals(self):
        first = coin(1, 2, "EUR", "$")
        self.assertEqual(last(first, coin(7, 2, "eur", "$")), [-1])
        self.assertEqual(last(first, coin(2, 2, "EUR", "%")), [-4])
        self.assertEqual(last(first, coin(2, 2, "eur", "$")), [-4])

    def test_a_refusal_leaves_the_coin_as_it_was(self):
        answers = run(READS_COINS, coin(1, 2, "EUR", "E"), coin(2, 2, "USD", "$"), coin(1, 2, "GBP", "$"),
                      coin(1, 2, "gbp", ""), coin(1, 5, "GBP", ""), read(0, "5E"), read(0, "5GBP"),
                      coin(3, 2, "GBP", ""))
        self.assertEqual(answers[3:6], [[-5], [-4], [-1]])
        self.assertEqual(said(answers[6]), [(1, "5")])
        self.assertEqual(said(answers[7]), -1001)
        self.assertEqual(answers[8], [0, 3])


if __name__ == "__main__":
    unittest.main()
