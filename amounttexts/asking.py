"""The calls that ask an object something and leave it as it is. Each gives its answer as a list."""

from amounttexts.ratio import is_less, plus, times, value_of
from amounttexts.reading import Reading
from amounttexts.refusals import CANNOT_TELL, FAULT, NO_COIN, NO_SUCH, NO_VALUE, NO_WHOLE_UNITS, SEVERAL, UNLIKE_COINS
from amounttexts.rows import row, value_row
from amounttexts.showing import shown

LESS = 0
EQUAL = 1
MORE = 2

# By a coin's digits: how many of its least units are 1.
UNITS_IN_ONE = (1, 10, 100, 1000, 10000)


def reading_by(book, habit, text):
    return Reading(book.habits[habit], book.coins, text)


# A text by a habit: its one amount, or None and the number by which it's refused. The text is the n-th one of its
# call: that tells its fault apart from those of the other texts.
class Single:
    def __init__(self, book, habit, text, nth):
        self.amount = None
        self.refusal = NO_SUCH
        if book.has_habit(habit):
            found = reading_by(book, habit, text)
            amounts = found.amounts()
            self.refusal = SEVERAL if len(amounts) > 1 else FAULT * nth - found.stood
            if len(amounts) == 1:
                self.amount = amounts[0]


# Texts by a habit: the amounts of those ahead of the first one that is refused, and the number that refuses it (None
# if each text has its one amount).
class Singles:
    def __init__(self, book, habit, texts):
        self.each = []
        self.refusal = None
        for index in range(len(texts)):
            single = Single(book, habit, texts[index], index + 1)
            if single.amount is None:
                self.refusal = single.refusal
                break
            self.each.append(single.amount)


def read(book, habit, text):
    if not book.has_habit(habit):
        return [NO_SUCH]
    found = reading_by(book, habit, text)
    amounts = found.amounts()
    if amounts == []:
        return [FAULT - found.stood]
    answer = [0, len(amounts)]
    for coin, value in amounts:
        answer.extend([coin] + value_row(value))
    return answer


def follow(book, habit, text):
    if not book.has_habit(habit):
        return [NO_SUCH]
    return [0] + row(reading_by(book, habit, text).followers())


def every(book, text):
    counts = []
    together = []
    for habit in range(len(book.habits)):
        amounts = reading_by(book, habit, text).amounts()
        counts.append(len(amounts))
        together.extend([amount for amount in amounts if amount not in together])
    return [0, 1 if len(together) <= 1 else 0] + row(counts)


# The answer that tells an amount in a style; the style and the coin are there (coin 0: the amount has none).
def in_style(book, style, coin, value):
    chosen = book.styles[style]
    text = shown(chosen, book.habits[chosen.habit], book.coins.get(coin), value)
    if text is None:
        return [CANNOT_TELL]
    return [0] + row(text)


def show(book, style, coin, text):
    if not book.has_style(style) or (coin != 0 and coin not in book.coins):
        return [NO_SUCH]
    value = value_of(text)
    if value is None:
        return [NO_VALUE]
    return in_style(book, style, coin, value)


def rewrite(book, habit, style, text):
    if not book.has_style(style):
        return [NO_SUCH]
    single = Single(book, habit, text, 1)
    if single.amount is None:
        return [single.refusal]
    return in_style(book, style, single.amount[0], single.amount[1])


def compare(book, habits, texts):
    first = Single(book, habits[0], texts[0], 1)
    if first.amount is None:
        return [first.refusal]
    second = Single(book, habits[1], texts[1], 2)
    if second.amount is None:
        return [second.refusal]
    if first.amount[0] != second.amount[0]:
        return [UNLIKE_COINS]
    if is_less(first.amount[1], second.amount[1]):
        return [0, LESS]
    return [0, EQUAL if first.amount[1] == second.amount[1] else MORE]


def units(book, habit, text):
    single = Single(book, habit, text, 1)
    if single.amount is None:
        return [single.refusal]
    coin = single.amount[0]
    if coin == 0:
        return [NO_COIN]
    found = times(single.amount[1], (UNITS_IN_ONE[book.coins[coin].digits], 1))
    if found[1] != 1:
        return [NO_WHOLE_UNITS]
    return [0] + value_row(found)


def add_up(book, habit, texts):
    singles = Singles(book, habit, texts)
    if singles.refusal is not None:
        return [singles.refusal]
    sums = {}
    for coin, value in singles.each:
        sums[coin] = plus(sums.get(coin, (0, 1)), value)
    answer = [0, len(sums)]
    for coin in sums:
        answer.extend([coin] + value_row(sums[coin]))
    return answer


def column(book, texts):
    habits = []
    readings = []
    for habit in range(len(book.habits)):
        singles = Singles(book, habit, texts)
        if singles.refusal is None:
            habits.append(habit)
            readings.append(singles.each)
    alike = all([amounts == readings[0] for amounts in readings])
    return [0, 1 if alike else 0] + row(habits)


def normal(book, habit, text):
    single = Single(book, habit, text, 1)
    if single.amount is None:
        return [single.refusal]
    return [0, single.amount[0]] + value_row(single.amount[1])


def count_all(book):
    return [0, len(book.coins), len(book.habits), len(book.styles)]


def habit_as_told(book, habit):
    if not book.has_habit(habit):
        return [NO_SUCH]
    return [0] + book.habits[habit].numbers()
