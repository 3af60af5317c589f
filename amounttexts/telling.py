"""The calls that change an object: coin, habit, style, clear. Each gives its answer as a list."""

from amounttexts.book import MOST_KEPT, Coin, Habit, Style
from amounttexts.refusals import ALL_TOLD, CANNOT_BE, NO_SUCH, TAKEN
from amounttexts.signs import PERCENT, bytes_of, is_digit

NAME_LENGTH = 3
LONGEST_MARK = 3
NOT_IN_MARKS = "+-().,'/"


def is_capital(byte):
    return 65 <= byte <= 90


def is_name(text):
    return len(text) == NAME_LENGTH and all([is_capital(byte) for byte in text])


def stands_in_marks(byte):
    return 33 <= byte <= 126 and not is_digit(byte) and byte != PERCENT and byte not in bytes_of(NOT_IN_MARKS)


def is_mark(text):
    return len(text) <= LONGEST_MARK and all([stands_in_marks(byte) for byte in text])


def tell_coin(book, numbers, texts):
    number = numbers[0]
    name = texts[0]
    mark = texts[1]
    if not is_name(name) or not is_mark(mark):
        return [CANNOT_BE]
    others = book.texts_of_others(number)
    # No mark is empty among these texts, so an empty mark is never taken.
    if name in others or mark in others or mark == name:
        return [TAKEN]
    book.coins[number] = Coin(numbers[1], name, mark)
    return [0, len(book.coins)]


def tell_habit(book, numbers):
    told = Habit(numbers)
    if not told.can_be():
        return [CANNOT_BE]
    if len(book.habits) == MOST_KEPT:
        return [ALL_TOLD]
    book.habits.append(told)
    return [0, len(book.habits) - 1]


def tell_style(book, numbers):
    told = Style(numbers)
    if not book.has_habit(told.habit):
        return [NO_SUCH]
    if not told.keeps_to(book.habits[told.habit]):
        return [CANNOT_BE]
    if len(book.styles) == MOST_KEPT:
        return [ALL_TOLD]
    book.styles.append(told)
    return [0, len(book.styles) - 1]


def clear_all(book):
    book.forget_all()
    return [0]
