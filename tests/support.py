"""How the tests make lines of calls and take their answers apart."""

from amounttexts.desk import answers

(COIN, HABIT, STYLE, READ, FOLLOW, EVERY, SHOW, REWRITE, COMPARE, UNITS, SUM, COLUMN, RECKON, NORMAL, EXPAND, COUNTS,
 TOLD, CLEAR) = range(18)


def code(text):
    """A text as a list of bytes; what is a list already stays as it is."""
    return [ord(sign) for sign in text] if isinstance(text, str) else list(text)


def words(numbers):
    return "".join(chr(number) for number in numbers)


def call(place, numbers, *texts):
    handed = [place, len(numbers)] + list(numbers) + [len(texts)]
    for text in texts:
        handed += [len(text)] + code(text)
    return handed


def coin(number, digits, name, mark=""):
    return call(COIN, [number, digits], name, mark)


def habit(group="", kind=0, must=0, point=".", signs=0, coins=0, extras=0):
    return call(HABIT, [ord(group) if group else 0, kind, must, ord(point), signs, coins, extras])


def style(of=0, grouped=0, sign=0, place=0, mark=0, form=1, decimals=0):
    return call(STYLE, [of, grouped, sign, place, mark, form, decimals])


def read(by, text):
    return call(READ, [by], text)


def follow(by, text):
    return call(FOLLOW, [by], text)


def every(text):
    return call(EVERY, [], text)


def show(by, of, value):
    return call(SHOW, [by, of], value)


def rewrite(by, to, text):
    return call(REWRITE, [by, to], text)


def compare(one, two, text, second):
    return call(COMPARE, [one, two], text, second)


def units(by, text):
    return call(UNITS, [by], text)


def add_up(by, *texts):
    return call(SUM, [by], *texts)


def column(*texts):
    return call(COLUMN, [], *texts)


def reckon(what, one, two):
    return call(RECKON, [what], one, two)


def normal(by, text):
    return call(NORMAL, [by], text)


def expand(value):
    return call(EXPAND, [], value)


def counts():
    return call(COUNTS, [])


def told_habit(by):
    return call(TOLD, [by])


def clear():
    return call(CLEAR, [])


def run(*calls):
    """The answers of a line, one list for each call."""
    given = answers([number for one in calls for number in one])
    lists = []
    at = 0
    while at < len(given):
        lists.append(given[at + 1:at + 1 + given[at]])
        at += 1 + given[at]
    assert at == len(given) and len(lists) == len(calls)
    return lists


def last(*calls):
    return run(*calls)[-1]


def said(answer):
    """An answer of read or sum as a list of (coin, value); a refusal as its number."""
    if answer[0] < 0:
        assert len(answer) == 1
        return answer[0]
    amounts = []
    at = 2
    while at < len(answer):
        end = at + 2 + answer[at + 1]
        amounts.append((answer[at], words(answer[at + 2:end])))
        at = end
    assert at == len(answer) and len(amounts) == answer[1]
    return amounts


def told(answer):
    """An answer that is one row as a text; a refusal as its number."""
    if answer[0] < 0:
        assert len(answer) == 1
        return answer[0]
    assert answer[1] == len(answer) - 2
    return words(answer[2:])


def rows(answer):
    """An answer that is rows alone as texts; a refusal as its number."""
    if answer[0] < 0:
        assert len(answer) == 1
        return answer[0]
    texts = []
    at = 1
    while at < len(answer):
        texts.append(words(answer[at + 1:at + 1 + answer[at]]))
        at += 1 + answer[at]
    assert at == len(answer)
    return texts
