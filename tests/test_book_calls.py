"""The calls 15 counts, 16 told and 17 clear."""

import unittest

from tests.support import (HABIT, add_up, call, clear, coin, column, compare, counts, every, expand, follow, habit,
                           last, normal, read, reckon, rewrite, run, show, style, told_habit, units)

ALL = habit(group=",", signs=31, coins=15, extras=63)
NAMES = ("AAA", "BBB", "CCC", "DDD", "EEE", "FFF")


class Counts(unittest.TestCase):
    def test_of_a_new_object(self):
        self.assertEqual(run(counts()), [[0, 0, 0, 0]])

    def test_each_of_the_three(self):
        self.assertEqual(last(coin(6, 2, "EUR"), counts()), [0, 1, 0, 0])
        self.assertEqual(last(ALL, counts()), [0, 0, 1, 0])
        self.assertEqual(last(ALL, style(), counts()), [0, 0, 1, 1])
        self.assertEqual(last(ALL, coin(1, 2, "EUR"), coin(4, 2, "USD"), ALL, ALL, style(), counts()), [0, 2, 3, 1])

    def test_a_coin_told_anew_is_no_more(self):
        self.assertEqual(last(coin(1, 2, "EUR"), coin(1, 2, "USD"), counts()), [0, 1, 0, 0])

    def test_as_many_as_there_can_be(self):
        coins = [coin(number + 1, 2, name) for number, name in enumerate(NAMES)]
        self.assertEqual(last(*coins, *[ALL] * 8, *[style()] * 8, counts()), [0, 6, 8, 8])
        self.assertEqual(last(*coins, *[ALL] * 9, *[style()] * 9, counts()), [0, 6, 8, 8])

    def test_what_is_refused_does_not_count(self):
        self.assertEqual(last(coin(1, 2, "eur"), coin(7, 2, "EUR"), habit(coins=16), habit(signs=32), style(),
                              counts()), [0, 0, 0, 0])
        self.assertEqual(last(coin(1, 2, "EUR"), coin(2, 2, "EUR"), ALL, style(form=5), style(of=1), counts()),
                         [0, 1, 1, 0])


class Told(unittest.TestCase):
    def test_its_seven_numbers(self):
        for numbers in ([0, 0, 0, 44, 0, 0, 0], [46, 1, 1, 44, 31, 31, 63], [32, 0, 1, 46, 1, 2, 4],
                        [39, 1, 0, 46, 16, 17, 32], [44, 1, 0, 46, 5, 6, 7]):
            self.assertEqual(last(call(HABIT, numbers), told_habit(0)), [0] + numbers)

    def test_each_of_eight_habits(self):
        made = [[0, number % 2, 0, 44 + number % 2 * 2, number, number + 1, number + 2] for number in range(8)]
        answers = run(*[call(HABIT, numbers) for numbers in made], *[told_habit(number) for number in range(8)])
        self.assertEqual(answers[8:], [[0] + numbers for numbers in made])

    def test_a_refused_habit_is_not_told(self):
        self.assertEqual(run(habit(coins=16), told_habit(0), habit(signs=3), habit(signs=32), told_habit(0),
                             told_habit(1))[1:],
                         [[-3], [0, 0], [-1], [0, 0, 0, 0, 46, 3, 0, 0], [-3]])

    def test_reading_leaves_it_as_told(self):
        self.assertEqual(last(ALL, read(0, "5"), follow(0, "5"), column("5"), told_habit(0)),
                         [0, 44, 0, 0, 46, 31, 15, 63])

    def test_out_of_range(self):
        for by in (-1, 8, 10 ** 18, -10 ** 18):
            self.assertEqual(last(ALL, told_habit(by)), [-1])
            self.assertEqual(last(told_habit(by)), [-1])

    def test_no_such_habit(self):
        self.assertEqual(last(told_habit(0)), [-3])
        self.assertEqual(last(ALL, told_habit(1)), [-3])
        self.assertEqual(last(*[ALL] * 7, told_habit(7)), [-3])
        self.assertEqual(last(*[ALL] * 8, told_habit(7)), [0, 44, 0, 0, 46, 31, 15, 63])

    def test_a_refusal_leaves_everything_as_it_was(self):
        self.assertEqual(run(ALL, told_habit(1), told_habit(8), told_habit(0), counts())[1:],
                         [[-3], [-1], [0, 44, 0, 0, 46, 31, 15, 63], [0, 0, 1, 0]])


class Clear(unittest.TestCase):
    def before(self):
        return [coin(1, 2, "EUR", "E"), coin(2, 3, "USD", "$"), ALL, ALL, style(place=4), style()]

    def after(self):
        """Calls of every kind, which answer otherwise where something is there already."""
        return [counts(), told_habit(0), read(0, "5"), follow(0, "5"), every("5"), show(0, 0, "5"), show(0, 1, "5"),
                rewrite(0, 0, "5"), compare(0, 0, "5", "5"), units(0, "5E"), add_up(0, "5"), column("5"),
                normal(0, "5"), reckon(0, "1", "2"), expand("1/3"), style(), coin(3, 0, "EUR", "$"),
                habit(coins=4, signs=2), style(sign=1), style(place=3, sign=1), read(0, "5E"), read(0, "5$"),
                follow(0, "5"), every("5$"), show(0, 0, "5"),
                show(0, 1, "5"), show(1, 3, "5"), rewrite(0, 1, "5EUR-"), compare(0, 0, "5$", "5EUR"), units(0, "5$"),
                units(0, "5USD"), add_up(0, "5", "5$"), column("5$"), normal(0, "5-"), told_habit(0), told_habit(1),
                reckon(3, "1", "0"), expand("x"), counts()]

    def test_answers_nothing_more(self):
        self.assertEqual(run(clear()), [[0]])
        self.assertEqual(last(*self.before(), clear()), [0])
        self.assertEqual(run(*self.before(), clear(), clear())[-2:], [[0], [0]])

    def test_nothing_is_left(self):
        self.assertEqual(run(*self.before(), counts(), clear(), counts())[6:], [[0, 2, 2, 2], [0], [0, 0, 0, 0]])

    def test_no_habit_style_or_coin_is_left(self):
        for asked, wanted in ((read(0, "5"), [-3]), (follow(0, "5"), [-3]), (every("5"), [0, 1, 0]),
                              (show(0, 0, "5"), [-3]), (rewrite(0, 0, "5"), [-3]), (compare(0, 0, "5", "5"), [-3]),
                              (units(0, "5E"), [-3]), (add_up(0, "5"), [-3]), (column("5"), [0, 1, 0]),
                              (normal(0, "5"), [-3]), (told_habit(0), [-3]), (style(), [-3]), (ALL, [0, 0]),
                              (coin(3, 2, "EUR", "$"), [0, 1])):
            self.assertEqual(last(*self.before(), clear(), asked), wanted, asked)
        self.assertEqual(last(*self.before(), clear(), ALL, style(place=1), show(0, 1, "5")), [-3])
        self.assertEqual(last(*self.before(), clear(), ALL, read(0, "5E")), [-1001])

    def test_all_is_as_at_the_beginning(self):
        wanted = run(*self.after())
        self.assertEqual(run(*self.before(), clear(), *self.after())[7:], wanted)
        self.assertEqual(run(clear(), *self.after())[1:], wanted)
        self.assertEqual(run(*self.after(), clear(), counts(), *self.after()[1:20])[39:], [[0]] + wanted[:20])

    def test_numbers_begin_anew(self):
        answers = run(*[ALL] * 8, *[style()] * 8, ALL, style(), clear(), ALL, ALL, style(), style())
        self.assertEqual(answers[16:], [[-5], [-5], [0], [0, 0], [0, 1], [0, 0], [0, 1]])

    def test_several_times_in_one_line(self):
        self.assertEqual(run(*[ALL, counts(), clear()] * 20), [[0, 0], [0, 0, 1, 0], [0]] * 20)


if __name__ == "__main__":
    unittest.main()
