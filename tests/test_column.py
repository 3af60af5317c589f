"""The call 11 column."""

import unittest

from tests.support import coin, column, habit, last, run

POINTS_BETWEEN = habit(group=".", point=",")
COMMAS_BETWEEN = habit(group=",", point=".")
BLANKS_BETWEEN = habit(group=" ", point=",")
BOTH = [POINTS_BETWEEN, COMMAS_BETWEEN]
MARKED = coin(1, 2, "KKK", "k")


class Column(unittest.TestCase):
    def check(self, before, texts, alike, habits):
        answer = last(*before, column(*texts))
        self.assertEqual(answer, [0, alike, len(habits)] + habits, texts)

    def test_several_habits_alike(self):
        self.check(BOTH, ["1", "25", "123456"], 1, [0, 1])
        self.check(BOTH + [BLANKS_BETWEEN], ["1"], 1, [0, 1, 2])

    def test_several_habits_not_alike(self):
        self.check(BOTH, ["1.234"], 0, [0, 1])
        self.check(BOTH, ["5", "1.234", "7"], 0, [0, 1])
        self.check(BOTH, ["5", "7", "1,234"], 0, [0, 1])

    def test_one_habit_alone_reads_them(self):
        self.check(BOTH, ["1.234", "1,5"], 1, [0])
        self.check(BOTH, ["1.5", "1.234"], 1, [1])
        self.check(BOTH, ["5", "1.234,5", "6"], 1, [0])
        self.check(BOTH + [BLANKS_BETWEEN], ["1 234,5"], 1, [2])

    def test_none_reads_them(self):
        self.check(BOTH, ["x"], 1, [])
        self.check(BOTH, [""], 1, [])
        self.check(BOTH, ["1.5", "1,5"], 1, [])
        self.check(BOTH, ["5", "6", "7", "x"], 1, [])

    def test_no_habit_told(self):
        self.check([], ["5"], 1, [])
        self.check([], ["x"] * 12, 1, [])

    def test_habits_that_read_it_not_do_not_count(self):
        self.check(BOTH + [BLANKS_BETWEEN], ["1.234", "1.234,5"], 1, [0])
        self.check(BOTH + [BLANKS_BETWEEN], ["1,234", "1,5"], 1, [0, 2])
        self.check([COMMAS_BETWEEN, POINTS_BETWEEN, habit()], ["1.234", "5"], 0, [0, 1, 2])

    def test_only_two_of_three_alike(self):
        self.check([habit(), COMMAS_BETWEEN, POINTS_BETWEEN], ["1.234"], 0, [0, 1, 2])
        self.check([POINTS_BETWEEN, habit(), COMMAS_BETWEEN], ["1.234"], 0, [0, 1, 2])
        self.check([habit(), POINTS_BETWEEN, COMMAS_BETWEEN], ["1.234"], 0, [0, 1, 2])

    def test_a_habit_by_which_a_text_says_several_amounts(self):
        both = habit(coins=4, extras=4)
        self.check([MARKED, both], ["5k"], 1, [])
        self.check([MARKED, both], ["5", "5k"], 1, [])
        self.check([MARKED, both, habit(coins=4)], ["5k"], 1, [1])
        self.check([MARKED, both, habit(extras=4)], ["5k", "5"], 1, [1])
        self.check([MARKED, habit(extras=4), both, habit(coins=4)], ["5k"], 0, [0, 2])

    def test_coins_tell_amounts_apart(self):
        self.check([MARKED, habit(extras=4), habit(coins=4)], ["0k"], 0, [0, 1])
        self.check([MARKED, habit(coins=5), habit(coins=4)], ["0k", "1KKK"], 1, [0, 1])

    def test_values_and_not_texts_tell_amounts_apart(self):
        self.check([habit(signs=1), habit(signs=1, extras=32)], ["-0", "0", "1.50"], 1, [0, 1])

    def test_texts_are_held_against_themselves_alone(self):
        self.check([habit(), COMMAS_BETWEEN], ["1", "2", "3"], 1, [0, 1])

    def test_twelve_texts_by_eight_habits(self):
        texts = [str(number) for number in range(11)]
        self.check([habit(extras=number) for number in range(8)], texts + ["1/2"], 1, [1, 3, 5, 7])
        self.check([habit(extras=number) for number in range(8)], texts + ["7k"], 1, [4, 5, 6, 7])
        self.check([COMMAS_BETWEEN] * 7 + [POINTS_BETWEEN], texts + ["1.234"], 0, list(range(8)))
        self.check([COMMAS_BETWEEN] * 7 + [POINTS_BETWEEN], texts + ["1.234,5"], 1, [7])

    def test_a_text_of_60_bytes(self):
        longest = "1" * 30 + "." + "2" * 15
        self.check([habit(extras=4)], [longest], 1, [0])
        self.check([habit(extras=4)], [[49] * 60], 1, [])
        self.check([habit(extras=4)], [[255] * 60], 1, [])
        full = "(" + ",".join(["987"] * 10) + "." + "0" * 15 + "KKK)"
        self.assertEqual(len(full), 60)
        self.check([MARKED, habit(group=",", signs=4, coins=4)], [full], 1, [0])

    def test_coins_told_later_count(self):
        answers = run(habit(coins=4), column("5k"), MARKED, column("5k"))
        self.assertEqual([answers[1], answers[3]], [[0, 1, 0], [0, 1, 1, 0]])


class Refused(unittest.TestCase):
    def test_texts_that_are_none(self):
        for text in ([49] * 61, [49] * 100, [256], [-1], [10 ** 18]):
            self.assertEqual(last(column(text)), [-1])
            self.assertEqual(last(*BOTH, column(text)), [-1])
            self.assertEqual(last(*BOTH, column("x", *["5"] * 10, text)), [-1])
            self.assertEqual(last(*BOTH, column(text, "5")), [-1])

    def test_a_refusal_leaves_everything_as_it_was(self):
        self.assertEqual(run(*BOTH, column([256]), column("1.234"))[2:], [[-1], [0, 0, 2, 0, 1]])


if __name__ == "__main__":
    unittest.main()
