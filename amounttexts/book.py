"""What an object keeps: coins, habits and styles, and which of them can be."""

MINUS_AHEAD = 1
MINUS_BEHIND = 2
BRACKETS = 4
DR_AND_CR = 8
PLUS_AHEAD = 16

COIN_AHEAD = 1
COIN_AHEAD_AND_BLANK = 2
COIN_BEHIND = 4
COIN_BEHIND_BLANK = 8
COIN_MUST_STAND = 16

FRACTIONS = 1
PERCENTS = 2
SCALES = 4
NOTHING_AHEAD = 8
NOTHING_BEHIND = 16
ZEROS_IN_FRONT = 32

# By a style's sign, its place of the coin and its form: which of the above its habit must let (0: nothing).
SIGN_LETS = (1, 2, 4, 8)
PLACE_LETS = (0, 1, 2, 4, 8)
FORM_LETS = (0, 0, 1, 2, 4)

MOST_KEPT = 8


# A coin; its name and its mark are lists of bytes.
class Coin:
    def __init__(self, digits, name, mark):
        self.digits = digits
        self.name = name
        self.mark = mark

    def texts(self):
        if self.mark == []:
            return [self.name]
        return [self.name, self.mark]


# A habit by its seven numbers, in the order in which they are told.
class Habit:
    def __init__(self, numbers):
        self.group = numbers[0]
        self.kind = numbers[1]
        self.must = numbers[2]
        self.point = numbers[3]
        self.signs = numbers[4]
        self.coins = numbers[5]
        self.extras = numbers[6]

    def numbers(self):
        return [self.group, self.kind, self.must, self.point, self.signs, self.coins, self.extras]

    def can_be(self):
        if self.group == self.point:
            return False
        if self.coins == COIN_MUST_STAND:
            return False
        return self.must == 0 or self.group != 0


# A style by its seven numbers, in the order in which they are told.
class Style:
    def __init__(self, numbers):
        self.habit = numbers[0]
        self.grouped = numbers[1]
        self.sign = numbers[2]
        self.place = numbers[3]
        self.marked = numbers[4]
        self.form = numbers[5]
        self.decimals = numbers[6]

    def keeps_to(self, habit):
        place = PLACE_LETS[self.place]
        form = FORM_LETS[self.form]
        if habit.signs & SIGN_LETS[self.sign] == 0:
            return False
        if place == 0 and habit.coins & COIN_MUST_STAND != 0:
            return False
        if habit.coins & place != place or habit.extras & form != form:
            return False
        if self.grouped == 1:
            return habit.group != 0
        return habit.must == 0


# The object on which a line's calls are made: coins by their numbers, habits and styles in order.
class Book:
    def __init__(self):
        self.coins = {}
        self.habits = []
        self.styles = []

    # All is as it was when the object was new.
    def forget_all(self):
        self.coins = {}
        self.habits = []
        self.styles = []

    def has_habit(self, number):
        return number < len(self.habits)

    def has_style(self, number):
        return number < len(self.styles)

    # The texts of all coins but the one of this number.
    def texts_of_others(self, number):
        texts = []
        for other in self.coins:
            if other != number:
                texts.extend(self.coins[other].texts())
        return texts
