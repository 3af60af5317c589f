"""The function answers: one list in, one list out, nothing changed, nothing kept."""

import unittest

import amounttexts.desk
from tests.support import call, coin, compare, every, follow, habit, last, read, rewrite, run, show, style

LINE = [coin(1, 2, "EUR", "E"), habit(group=",", signs=31, coins=15, extras=63), style(place=4, grouped=1),
        read(0, "1,234.5 EUR"), follow(0, "5 d"), every("5"), show(0, 1, "5/2"), rewrite(0, 0, "E5k"),
        compare(0, 0, "5", "6"), read(1, "5"), read(0, "x")]


def flat(calls):
    return [number for one in calls for number in one]


class Interface(unittest.TestCase):
    def test_a_line_number_by_number(self):
        handed = [0, 2, 1, 2, 2, 3, 69, 85, 82, 1, 69,
                  1, 7, 44, 0, 0, 46, 31, 15, 63, 0,
                  2, 7, 0, 1, 0, 4, 0, 1, 0, 0,
                  3, 1, 0, 1, 1, 53,
                  4, 1, 0, 1, 3, 53, 32, 100,
                  5, 0, 1, 0,
                  6, 2, 0, 1, 1, 3, 53, 47, 50,
                  7, 2, 0, 0, 1, 3, 69, 53, 107,
                  8, 2, 0, 0, 2, 1, 53, 1, 54,
                  3, 1, 1, 1, 0,
                  3, 1, 0, 1, 1, 120]
        wanted = [2, 0, 1,
                  2, 0, 0,
                  2, 0, 0,
                  5, 0, 1, 0, 1, 53,
                  3, 0, 1, 114,
                  4, 0, 1, 1, 0,
                  9, 0, 7, 50, 46, 53, 32, 69, 85, 82,
                  11, 0, 9, 53, 44, 48, 48, 48, 32, 69, 85, 82,
                  2, 0, 0,
                  1, -3,
                  1, -1000]
        self.assertEqual(amounttexts.desk.answers(handed), wanted)

    def test_what_is_handed_in_is_not_changed(self):
        handed = flat(LINE)
        before = list(handed)
        amounttexts.desk.answers(handed)
        self.assertEqual(handed, before)

    def test_what_is_given_back_is_a_list_of_whole_numbers(self):
        given = amounttexts.desk.answers(flat(LINE))
        self.assertIs(type(given), list)
        self.assertEqual({type(number) for number in given}, {int})

    def test_nothing_is_kept_from_one_time_to_the_next(self):
        handed = flat(LINE)
        first = amounttexts.desk.answers(handed)
        self.assertEqual(amounttexts.desk.answers(read(0, "5")), [1, -3])
        self.assertEqual(amounttexts.desk.answers(show(0, 0, "5")), [1, -3])
        self.assertEqual(amounttexts.desk.answers(coin(2, 2, "EUR", "E")), [2, 0, 1])
        self.assertEqual(amounttexts.desk.answers(handed), first)

    def test_a_list_given_back_is_no_part_of_a_later_one(self):
        first = amounttexts.desk.answers(flat(LINE))
        copy = list(first)
        first.clear()
        self.assertEqual(amounttexts.desk.answers(flat(LINE)), copy)

    def test_sixty_calls_with_the_longest_lists(self):
        calls = [read(0, [49] * 100)] * 58 + [habit(), read(0, "5")]
        self.assertEqual(run(*calls), [[-1]] * 58 + [[0, 0], [0, 1, 0, 1, 53]])

    def test_calls_in_any_order(self):
        self.assertEqual(run(read(0, "5"), habit(signs=1), read(0, "5"), show(0, 0, "5"), style(), show(0, 0, "5")),
                         [[-3], [0, 0], [0, 1, 0, 1, 53], [-3], [0, 0], [0, 1, 53]])

    def test_every_refusal_leaves_everything_as_it_was(self):
        before = LINE[:3]
        refused = [call(0, [1, 9], "GBP", ""), coin(1, 2, "gbp"), coin(2, 2, "EUR"), habit(signs=32), habit(coins=16),
                   style(of=1), style(sign=4), style(place=0, of=7), read(0, "x"), read(1, "5"), read(8, "5"),
                   follow(1, "5"), every([256]), show(0, 0, "5"), show(0, 2, "5"), show(0, 1, "x"), show(1, 0, "5"),
                   rewrite(0, 0, "x"), rewrite(0, 0, "5"), rewrite(0, 1, "5"), compare(0, 0, "x", "5"),
                   compare(0, 0, "5", "x"), compare(0, 0, "5", "5E"), compare(0, 1, "5", "5")]
        answers = run(*before, *refused, *LINE[3:])
        self.assertTrue(all(len(answer) == 1 and answer[0] < 0 for answer in answers[3:3 + len(refused)]))
        self.assertEqual(answers[3 + len(refused):], run(*LINE)[3:])

    def test_asking_leaves_everything_as_it_was(self):
        self.assertEqual(run(*LINE, *LINE[3:])[len(LINE):], run(*LINE)[3:])

    def test_the_greatest_numbers(self):
        for number in (10 ** 18, -10 ** 18):
            self.assertEqual(last(habit(), read(number, [number] * 100)), [-1])


if __name__ == "__main__":
    unittest.main()
