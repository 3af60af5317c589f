"""The call 5 every: whether all habits together say at most one amount."""

import unittest

from tests.support import coin, every, habit, last

POINTS_BETWEEN = habit(group=".", point=",")
COMMAS_BETWEEN = habit(group=",", point=".")


class Every(unittest.TestCase):
    def test_the_example_of_the_document(self):
        self.assertEqual(last(POINTS_BETWEEN, COMMAS_BETWEEN, every("1.234")), [0, 0, 2, 1, 1])

    def test_habits_that_say_the_same(self):
        self.assertEqual(last(POINTS_BETWEEN, COMMAS_BETWEEN, every("1234")), [0, 1, 2, 1, 1])
        self.assertEqual(last(habit(), habit(extras=16), every("5.0")), [0, 1, 2, 1, 1])

    def test_one_alone_says_it(self):
        self.assertEqual(last(POINTS_BETWEEN, COMMAS_BETWEEN, every("1.234,5")), [0, 1, 2, 1, 0])
        self.assertEqual(last(COMMAS_BETWEEN, POINTS_BETWEEN, every("1.234,5")), [0, 1, 2, 0, 1])

    def test_none_says_it(self):
        self.assertEqual(last(POINTS_BETWEEN, COMMAS_BETWEEN, every("x")), [0, 1, 2, 0, 0])
        self.assertEqual(last(POINTS_BETWEEN, COMMAS_BETWEEN, every("")), [0, 1, 2, 0, 0])

    def test_no_habits(self):
        self.assertEqual(last(every("5")), [0, 1, 0])

    def test_one_habit_that_says_several(self):
        scaled = habit(extras=4, coins=4)
        self.assertEqual(last(coin(1, 2, "KKK", "k"), scaled, every("5k")), [0, 0, 1, 2])
        self.assertEqual(last(coin(1, 2, "KKK", "k"), scaled, habit(extras=4), every("5k")), [0, 0, 2, 2, 1])

    def test_coins_tell_amounts_apart(self):
        dollar = coin(1, 2, "KKK", "k")
        self.assertEqual(last(dollar, habit(coins=4), habit(extras=4), every("5k")), [0, 0, 2, 1, 1])
        self.assertEqual(last(dollar, habit(coins=4), habit(extras=4), every("0k")), [0, 0, 2, 1, 1])
        self.assertEqual(last(dollar, habit(coins=4), habit(coins=5), every("5k")), [0, 1, 2, 1, 1])

    def test_values_and_not_texts_tell_amounts_apart(self):
        self.assertEqual(last(habit(signs=1), habit(signs=1, extras=32), every("-0")), [0, 1, 2, 1, 1])

    def test_eight_habits(self):
        habits = [habit(extras=number) for number in range(8)]
        self.assertEqual(last(*habits, every("1/2")), [0, 1, 8, 0, 1, 0, 1, 0, 1, 0, 1])
        self.assertEqual(last(*habits, every("7k")), [0, 1, 8, 0, 0, 0, 0, 1, 1, 1, 1])

    def test_refused_texts(self):
        for text in ([49] * 61, [256], [-1]):
            self.assertEqual(last(habit(), every(text)), [-1])
        self.assertEqual(last(habit(), every([255] * 60)), [0, 1, 1, 0])


if __name__ == "__main__":
    unittest.main()
