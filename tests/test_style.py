"""The call 2 style."""

import unittest

from tests.support import STYLE, call, habit, last, run, show, style, told

ALL = habit(group=",", signs=31, coins=15, extras=63)


class Accepted(unittest.TestCase):
    def test_answers_its_number(self):
        self.assertEqual(run(ALL, *[style()] * 8)[1:], [[0, number] for number in range(8)])

    def test_each_number_up_to_its_ends(self):
        for numbers in ([0, 1, 3, 4, 1, 4, 15], [0, 0, 0, 0, 0, 0, 0], [0, 1, 2, 3, 1, 3, 7]):
            self.assertEqual(last(ALL, call(STYLE, numbers)), [0, 0], numbers)
        self.assertEqual(last(*[ALL] * 8, style(of=7)), [0, 0])

    def test_each_style_is_kept_by_its_number(self):
        answers = run(ALL, style(form=0, decimals=2), style(form=2), show(0, 0, "1/2"), show(1, 0, "1/2"))
        self.assertEqual([told(answer) for answer in answers[3:]], ["0.50", "1/2"])

    def test_a_style_keeps_the_habit_that_it_was_told_for(self):
        answers = run(habit(group=",", signs=1), habit(group=".", point=",", signs=1), style(of=1, grouped=1),
                      style(of=0, grouped=1), show(0, 0, "2469/2"), show(1, 0, "2469/2"))
        self.assertEqual([told(answer) for answer in answers[4:]], ["1.234,5", "1,234.5"])


class KeepsToItsHabit(unittest.TestCase):
    def test_its_sign(self):
        for sign in range(4):
            for signs in range(32):
                expected = [0, 0] if signs >> sign & 1 else [-4]
                self.assertEqual(last(habit(signs=signs), style(sign=sign)), expected, (sign, signs))

    def test_its_place_of_the_coin(self):
        for place in range(5):
            for coins in [coins for coins in range(32) if coins != 16]:
                kept = coins < 16 if place == 0 else coins >> (place - 1) & 1
                answer = last(habit(signs=1, coins=coins), style(place=place))
                self.assertEqual(answer, [0, 0] if kept else [-4], (place, coins))

    def test_its_form(self):
        for form in range(5):
            for extras in range(64):
                kept = form < 2 or extras >> (form - 2) & 1
                answer = last(habit(signs=1, extras=extras), style(form=form))
                self.assertEqual(answer, [0, 0] if kept else [-4], (form, extras))

    def test_grouped(self):
        for group, must, grouped, kept in (("", 0, 0, True), ("", 0, 1, False), (",", 0, 0, True), (",", 0, 1, True),
                                           (",", 1, 0, False), (",", 1, 1, True)):
            answer = last(habit(group=group, must=must, signs=1), style(grouped=grouped))
            self.assertEqual(answer, [0, 0] if kept else [-4], (group, must, grouped))


class Refused(unittest.TestCase):
    def test_numbers_out_of_range(self):
        good = [0, 0, 0, 0, 0, 0, 0]
        for index, beyond in enumerate((8, 2, 4, 5, 2, 5, 16)):
            for number in (-1, beyond, 10 ** 18, -10 ** 18):
                numbers = good[:index] + [number] + good[index + 1:]
                self.assertEqual(last(ALL, call(STYLE, numbers)), [-1], numbers)

    def test_no_such_habit(self):
        self.assertEqual(last(style()), [-3])
        self.assertEqual(last(ALL, style(of=1)), [-3])
        self.assertEqual(last(*[ALL] * 7, style(of=7)), [-3])

    def test_a_ninth_style(self):
        self.assertEqual(run(ALL, *[style()] * 9)[8:], [[0, 7], [-5]])

    def test_order_of_the_refusals(self):
        eight = [habit(signs=1)] + [style()] * 8
        self.assertEqual(last(*eight, style(of=1, decimals=16)), [-1])
        self.assertEqual(last(*eight, style(of=1, sign=1)), [-3])
        self.assertEqual(last(*eight, style(sign=1)), [-4])

    def test_a_refused_style_takes_no_number(self):
        self.assertEqual(run(habit(signs=1), style(), style(sign=3), style(of=2), style(form=5), style())[1:],
                         [[0, 0], [-4], [-3], [-1], [0, 1]])


if __name__ == "__main__":
    unittest.main()
