"""The calls that ask an object something and leave it as it is. Each gives its answer as a list."""

from amounttexts.ratio import is_less, one_form, value_of
from amounttexts.reading import Reading
from amounttexts.refusals import CANNOT_TELL, FAULT, NO_SUCH, NO_VALUE, SEVERAL, UNLIKE_COINS
from amounttexts.showing import shown

LESS = 0
EQUAL = 1
MORE = 2


def row(numbers):
    return [len(numbers)] + numbers


def reading_by(book, habit, text):
    return Reading(book.habits[habit], book.coins, text)


# A text by a habit: its one amount, or None and the number by which it's refused. The text is the n-th one of its
# call: that tells its fault apart from those of the other texts.
class Single:
    def __init__(self, book, habit, text, nth):
        self.amount = None
        self.refusal = NO_SUCH
        if book.has_habit(habit):
            found = reading_by(book, habit, text)
            amounts = found.amounts()
            self.refusal = SEVERAL if len(amounts) > 1 else FAULT * nth - found.stood
            if len(amounts) == 1:
                self.amount = amounts[0]


def read(book, habit, text):
    if not book.has_habit(habit):
        return [NO_SUCH]
    found = reading_by(book, habit, text)
    amounts = found.amounts()
    if amounts == []:
        return [FAULT - found.stood]
    answer = [0, len(amounts)]
    for coin, value in amounts:
        answer.append(coin)
        answer.extend(row(one_form(value)))
    return answer


def follow(book, habit, text):
    if not book.has_habit(habit):
        return [NO_SUCH]
    return [0] + row(reading_by(book, habit, text).followers())


def every(book, text):
    counts = []
    together = []
    for habit in range(len(book.habits)):
        amounts = reading_by(book, habit, text).amounts()
        counts.append(len(amounts))
        together.extend([amount for amount in amounts if amount not in together])
    return [0, 1 if len(together) <= 1 else 0] + row(counts)


# The answer that tells an amount in a style; the style and the coin are there (coin 0: the amount has none).
def in_style(book, style, coin, value):
    chosen = book.styles[style]
    text = shown(chosen, book.habits[chosen.habit], book.coins.get(coin), value)
    if text is None:
        return [CANNOT_TELL]
    return [0] + row(text)


def show(book, style, coin, text):
    if not book.has_style(style) or (coin != 0 and coin not in book.coins):
        return [NO_SUCH]
    value = value_of(text)
    if value is None:
        return [NO_VALUE]
    return in_style(book, style, coin, value)


def rewrite(book, habit, style, text):
    if not book.has_style(style):
        return [NO_SUCH]
    single = Single(book, habit, text, 1)
    if single.amount is None:
        return [single.refusal]
    return in_style(book, style, single.amount[0], single.amount[1])


def compare(book, habits, texts):
    first = Single(book, habits[0], texts[0], 1)
    if first.amount is None:
        return [first.refusal]
    second = Single(book, habits[1], texts[1], 2)
    if second.amount is None:
        return [second.refusal]
    if first.amount[0] != second.amount[0]:
        return [UNLIKE_COINS]
    if is_less(first.amount[1], second.amount[1]):
        return [0, LESS]
    return [0, EQUAL if first.amount[1] == second.amount[1] else MORE]
