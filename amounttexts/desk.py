"""The calls of a line, handed in as one list, and their answers, given back as one list."""

from amounttexts.asking import add_up, column, compare, count_all, every, follow, habit_as_told, normal, read, rewrite
from amounttexts.asking import show, units
from amounttexts.book import Book
from amounttexts.reckoning import expand, reckon
from amounttexts.refusals import OUT_OF_RANGE
from amounttexts.telling import clear_all, tell_coin, tell_habit, tell_style

COIN = 0
HABIT = 1
STYLE = 2
READ = 3
FOLLOW = 4
EVERY = 5
SHOW = 6
REWRITE = 7
COMPARE = 8
UNITS = 9
SUM = 10
COLUMN = 11
RECKON = 12
NORMAL = 13
EXPAND = 14
COUNTS = 15
TOLD = 16
CLEAR = 17

# By a call's place: the least and the greatest that each of its numbers may be.
RANGES = (
    ((1, 6), (0, 4)),
    ((0, 46), (0, 1), (0, 1), (44, 46), (0, 31), (0, 31), (0, 63)),
    ((0, 7), (0, 1), (0, 3), (0, 4), (0, 1), (0, 4), (0, 15)),
    ((0, 7),),
    ((0, 7),),
    (),
    ((0, 7), (0, 6)),
    ((0, 7), (0, 7)),
    ((0, 7), (0, 7)),
    ((0, 7),),
    ((0, 7),),
    (),
    ((0, 5),),
    ((0, 7),),
    (),
    (),
    ((0, 7),),
    (),
)
# A habit's group and point may not be all that lies within their ranges.
GROUPS = (0, 32, 39, 44, 46)
POINTS = (44, 46)
LONGEST_TEXT = 60
GREATEST_BYTE = 255


def is_text(numbers):
    return len(numbers) <= LONGEST_TEXT and all([0 <= byte <= GREATEST_BYTE for byte in numbers])


def are_in_range(place, numbers):
    for number, bounds in zip(numbers, RANGES[place]):
        if number < bounds[0] or number > bounds[1]:
            return False
    return place != HABIT or (numbers[0] in GROUPS and numbers[3] in POINTS)


def answer_of_the_book(book, place, numbers, lists):
    if place == COIN:
        return tell_coin(book, numbers, lists)
    if place == HABIT:
        return tell_habit(book, numbers)
    if place == STYLE:
        return tell_style(book, numbers)
    if place == COUNTS:
        return count_all(book)
    if place == TOLD:
        return habit_as_told(book, numbers[0])
    return clear_all(book)


def answer_with_values(book, place, numbers, lists):
    if place == SHOW:
        return show(book, numbers[0], numbers[1], lists[0])
    if place == RECKON:
        return reckon(numbers[0], lists)
    return expand(lists[0])


def answer_with_texts(book, place, numbers, lists):
    if place == READ:
        return read(book, numbers[0], lists[0])
    if place == FOLLOW:
        return follow(book, numbers[0], lists[0])
    if place == EVERY:
        return every(book, lists[0])
    if place == REWRITE:
        return rewrite(book, numbers[0], numbers[1], lists[0])
    if place == COMPARE:
        return compare(book, numbers, lists)
    if place == UNITS:
        return units(book, numbers[0], lists[0])
    if place == SUM:
        return add_up(book, numbers[0], lists)
    if place == COLUMN:
        return column(book, lists)
    return normal(book, numbers[0], lists[0])


def answer_to(book, place, numbers, lists):
    if not are_in_range(place, numbers) or not all([is_text(told) for told in lists]):
        return [OUT_OF_RANGE]
    if place in (COIN, HABIT, STYLE, COUNTS, TOLD, CLEAR):
        return answer_of_the_book(book, place, numbers, lists)
    if place in (SHOW, RECKON, EXPAND):
        return answer_with_values(book, place, numbers, lists)
    return answer_with_texts(book, place, numbers, lists)


# The list that stands behind its length, which stands at this index.
def list_at(calls, at):
    return calls[at + 1:at + 1 + calls[at]]


def answers(calls):
    book = Book()
    given = []
    at = 0
    while at < len(calls):
        place = calls[at]
        numbers = list_at(calls, at + 1)
        at += 2 + len(numbers)
        left = calls[at]
        at += 1
        lists = []
        while len(lists) < left:
            told = list_at(calls, at)
            lists.append(told)
            at += 1 + len(told)
        answer = answer_to(book, place, numbers, lists)
        given.append(len(answer))
        given.extend(answer)
    return given
