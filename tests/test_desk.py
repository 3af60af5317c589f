"""The function answers: one list in, one list out, nothing changed, nothing kept."""

import contextlib
import io
import sys
import unittest

import amounttexts.desk
from tests.support import (add_up, call, clear, coin, column, compare, counts, every, expand, follow, habit, last,
                           normal, read, reckon, rewrite, run, show, style, told_habit, units)

LINE = [coin(1, 2, "EUR", "E"), habit(group=",", signs=31, coins=15, extras=63), style(place=4, grouped=1),
        read(0, "1,234.5 EUR"), follow(0, "5 d"), every("5"), show(0, 1, "5/2"), rewrite(0, 0, "E5k"),
        compare(0, 0, "5", "6"), read(1, "5"), read(0, "x"), units(0, "1.25 EUR"), add_up(0, "1/2", "5E", "1/3"),
        column("5", "1,234"), reckon(3, "1/2", "-3"), normal(0, "5%E"), expand("7/12"), counts(), told_habit(0),
        units(0, "5"), add_up(0, "5", "x"), reckon(3, "1", "0"), normal(0, ""), expand("1/97"), told_habit(1)]


class Unchanged(list):
    """A list that fails as soon as it is changed."""

    def fail(self, *_):
        raise AssertionError("what is handed in was changed")

    __setitem__ = __delitem__ = __iadd__ = __imul__ = fail
    append = extend = insert = pop = remove = reverse = sort = clear = fail


def flat(calls):
    return [number for one in calls for number in one]


def frames_now():
    frames = []
    frame = sys._getframe()
    while frame:
        frames.append(frame)
        frame = frame.f_back
    return frames


class Interface(unittest.TestCase):
    def test_a_line_number_by_number(self):
        handed = [0, 2, 1, 2, 2, 3, 69, 85, 82, 1, 69,
                  1, 7, 44, 0, 0, 46, 31, 15, 63, 0,
                  2, 7, 0, 1, 0, 4, 0, 1, 0, 0,
                  3, 1, 0, 1, 1, 53,
                  4, 1, 0, 1, 3, 53, 32, 100,
                  5, 0, 1, 0,
                  6, 2, 0, 1, 1, 3, 53, 47, 50,
                  7, 2, 0, 0, 1, 3, 69, 53, 107,
                  8, 2, 0, 0, 2, 1, 53, 1, 54,
                  3, 1, 1, 1, 0,
                  3, 1, 0, 1, 1, 120]
        wanted = [2, 0, 1,
                  2, 0, 0,
                  2, 0, 0,
                  5, 0, 1, 0, 1, 53,
                  3, 0, 1, 114,
                  4, 0, 1, 1, 0,
                  9, 0, 7, 50, 46, 53, 32, 69, 85, 82,
                  11, 0, 9, 53, 44, 48, 48, 48, 32, 69, 85, 82,
                  2, 0, 0,
                  1, -3,
                  1, -1000]
        self.assertEqual(amounttexts.desk.answers(handed), wanted)

    def test_the_other_calls_number_by_number(self):
        handed = [0, 2, 1, 2, 2, 3, 69, 85, 82, 1, 69,
                  1, 7, 44, 0, 0, 46, 31, 15, 63, 0,
                  9, 1, 0, 1, 2, 53, 69,
                  10, 1, 0, 3, 1, 53, 2, 53, 69, 1, 54,
                  10, 1, 0, 2, 1, 53, 2, 53, 120,
                  11, 0, 2, 1, 53, 1, 54,
                  12, 1, 2, 2, 1, 53, 3, 49, 47, 50,
                  13, 1, 0, 1, 2, 69, 53,
                  14, 0, 1, 4, 55, 47, 49, 50,
                  15, 0, 0,
                  16, 1, 0, 0,
                  17, 0, 0,
                  15, 0, 0]
        wanted = [2, 0, 1,
                  2, 0, 0,
                  5, 0, 3, 53, 48, 48,
                  9, 0, 2, 0, 2, 49, 49, 1, 1, 53,
                  1, -2001,
                  4, 0, 1, 1, 0,
                  5, 0, 3, 53, 47, 50,
                  4, 0, 1, 1, 53,
                  8, 0, 1, 48, 2, 53, 56, 1, 51,
                  4, 0, 1, 1, 0,
                  8, 0, 44, 0, 0, 46, 31, 15, 63,
                  1, 0,
                  4, 0, 0, 0, 0]
        self.assertEqual(amounttexts.desk.answers(handed), wanted)

    def test_what_is_handed_in_is_not_changed(self):
        handed = flat(LINE)
        before = list(handed)
        amounttexts.desk.answers(handed)
        self.assertEqual(handed, before)

    def test_what_is_handed_in_is_not_changed_for_a_while_either(self):
        handed = flat(LINE + [clear()] + LINE[:20])
        self.assertEqual(amounttexts.desk.answers(Unchanged(handed)), amounttexts.desk.answers(handed))

    def test_nothing_is_printed(self):
        printed = io.StringIO()
        with contextlib.redirect_stdout(printed), contextlib.redirect_stderr(printed):
            amounttexts.desk.answers(flat(LINE + [clear()]))
        self.assertEqual(printed.getvalue(), "")

    def test_what_is_given_back_is_a_list_of_whole_numbers(self):
        given = amounttexts.desk.answers(flat(LINE))
        self.assertIs(type(given), list)
        self.assertEqual({type(number) for number in given}, {int})

    def test_nothing_is_kept_from_one_time_to_the_next(self):
        handed = flat(LINE)
        first = amounttexts.desk.answers(handed)
        self.assertEqual(amounttexts.desk.answers(read(0, "5")), [1, -3])
        self.assertEqual(amounttexts.desk.answers(show(0, 0, "5")), [1, -3])
        self.assertEqual(amounttexts.desk.answers(coin(2, 2, "EUR", "E")), [2, 0, 1])
        self.assertEqual(amounttexts.desk.answers(counts()), [4, 0, 0, 0, 0])
        self.assertEqual(amounttexts.desk.answers(handed), first)

    def test_a_list_given_back_is_no_part_of_a_later_one(self):
        first = amounttexts.desk.answers(flat(LINE))
        copy = list(first)
        first.clear()
        self.assertEqual(amounttexts.desk.answers(flat(LINE)), copy)

    def test_sixty_calls_with_the_longest_lists(self):
        calls = [read(0, [49] * 100)] * 58 + [habit(), read(0, "5")]
        self.assertEqual(run(*calls), [[-1]] * 58 + [[0, 0], [0, 1, 0, 1, 53]])

    def test_the_longest_line_is_gone_through_by_loops(self):
        texts = [[49] * 13 + [32] * 9] * 12
        calls = [habit()] * 8 + [column(*texts)] * 26 + [add_up(0, *texts)] * 26
        self.assertLessEqual(len(flat(calls)), 16000)
        self.assertGreater(len(flat(calls)), 14000)
        before = sys.getrecursionlimit()
        depth = len(frames_now())
        try:
            sys.setrecursionlimit(depth + 30)
            given = amounttexts.desk.answers(flat(calls))
        finally:
            sys.setrecursionlimit(before)
        self.assertEqual(given, [n for at in range(8) for n in (2, 0, at)] + [3, 0, 1, 0] * 26 + [1, -1013] * 26)

    def test_calls_in_any_order(self):
        self.assertEqual(run(read(0, "5"), habit(signs=1), read(0, "5"), show(0, 0, "5"), style(), show(0, 0, "5")),
                         [[-3], [0, 0], [0, 1, 0, 1, 53], [-3], [0, 0], [0, 1, 53]])

    def test_every_refusal_leaves_everything_as_it_was(self):
        before = LINE[:3]
        refused = [call(0, [1, 9], "GBP", ""), coin(1, 2, "gbp"), coin(2, 2, "EUR"), habit(signs=32), habit(coins=16),
                   style(of=1), style(sign=4), style(place=0, of=7), read(0, "x"), read(1, "5"), read(8, "5"),
                   follow(1, "5"), every([256]), show(0, 0, "5"), show(0, 2, "5"), show(0, 1, "x"), show(1, 0, "5"),
                   rewrite(0, 0, "x"), rewrite(0, 0, "5"), rewrite(0, 1, "5"), compare(0, 0, "x", "5"),
                   compare(0, 0, "5", "x"), compare(0, 0, "5", "5E"), compare(0, 1, "5", "5")]
        self.check_refused(before, refused)
        refused = [units(0, "5"), units(0, "0.001E"), units(0, "x"), units(1, "5"), units(8, "5"), add_up(0, "5E", "x"),
                   add_up(1, "5"), add_up(0, "5", [256]), column("5", [256]), reckon(6, "1", "1"), reckon(3, "1", "0"),
                   reckon(0, "x", "1"), reckon(0, "1", [256]), normal(0, "x"), normal(1, "5"), normal(0, [256]),
                   expand("1/97"), expand("x"), expand([256]), told_habit(1), told_habit(8)]
        self.check_refused(before, refused)

    def check_refused(self, before, refused):
        answers = run(*before, *refused, *LINE[3:])
        self.assertTrue(all(len(answer) == 1 and answer[0] < 0 for answer in answers[3:3 + len(refused)]))
        self.assertEqual(answers[3 + len(refused):], run(*LINE)[3:])

    def test_asking_leaves_everything_as_it_was(self):
        self.assertEqual(run(*LINE, *LINE[3:])[len(LINE):], run(*LINE)[3:])

    def test_the_greatest_numbers(self):
        for number in (10 ** 18, -10 ** 18):
            self.assertEqual(last(habit(), read(number, [number] * 100)), [-1])


if __name__ == "__main__":
    unittest.main()
