"""The call 1 habit."""

import unittest

from tests.support import HABIT, call, habit, last, read, run, said

PLAIN = [0, 0, 0, 46, 0, 0, 0]


def with_number(index, number):
    return PLAIN[:index] + [number] + PLAIN[index + 1:]


class Accepted(unittest.TestCase):
    def test_answers_its_number(self):
        self.assertEqual(run(*[habit()] * 8), [[0, number] for number in range(8)])

    def test_each_number_up_to_its_ends(self):
        for index, let in enumerate(((0, 32, 39, 44), (0, 1), (0,), (44, 46), range(32),
                                     [coins for coins in range(32) if coins != 16], range(64))):
            for number in let:
                self.assertEqual(last(call(HABIT, with_number(index, number))), [0, 0], (index, number))

    def test_every_group_with_a_point_that_it_is_not(self):
        for group in (32, 39, 44, 46):
            point = 46 if group == 44 else 44
            self.assertEqual(last(call(HABIT, [group, 1, 1, point, 31, 31, 63])), [0, 0])

    def test_each_habit_is_kept_by_its_number(self):
        answers = run(habit(group=","), habit(group=".", point=","), read(0, "1,234"), read(1, "1,234"))
        self.assertEqual([said(answer) for answer in answers[2:]], [[(0, "1234")], [(0, "617/500")]])


class Refused(unittest.TestCase):
    def test_numbers_out_of_range(self):
        for index, wrong in enumerate(((-1, 1, 31, 33, 38, 40, 43, 45, 47, 48), (-1, 2), (-1, 2), (0, 43, 45, 47),
                                       (-1, 32), (-1, 32), (-1, 64))):
            for number in list(wrong) + [10 ** 18, -10 ** 18]:
                self.assertEqual(last(call(HABIT, with_number(index, number))), [-1], (index, number))

    def test_a_group_that_is_the_point(self):
        for byte in (44, 46):
            self.assertEqual(last(call(HABIT, [byte, 0, 0, byte, 0, 0, 0])), [-4])

    def test_a_coin_that_must_stand_but_nowhere_may(self):
        self.assertEqual(last(habit(coins=16)), [-4])
        for coins in (17, 18, 20, 24):
            self.assertEqual(last(habit(coins=coins)), [0, 0])

    def test_must_without_a_group(self):
        self.assertEqual(last(habit(must=1)), [-4])

    def test_a_ninth_habit(self):
        self.assertEqual(run(*[habit()] * 9)[7:], [[0, 7], [-5]])

    def test_order_of_the_refusals(self):
        eight = [habit()] * 8
        self.assertEqual(last(*eight, call(HABIT, [44, 0, 0, 44, 32, 0, 0])), [-1])
        self.assertEqual(last(*eight, call(HABIT, [44, 0, 0, 44, 0, 0, 0])), [-4])
        self.assertEqual(last(*eight, habit(coins=16)), [-4])

    def test_a_refused_habit_takes_no_number(self):
        self.assertEqual(run(habit(), habit(coins=16), habit(must=1), habit(signs=32), habit()),
                         [[0, 0], [-4], [-4], [-1], [0, 1]])


if __name__ == "__main__":
    unittest.main()
