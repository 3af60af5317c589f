"""Texts by a habit: what they say, where their fault is, what may follow.

A text that says an amount is a head, a number and a tail. A head is a sign or nothing, then a coin or nothing; a tail
is a coin or nothing, then a sign or nothing: there are only so many of both, so they are listed. Which tails may stand
depends on the head. The number between is read by the states of amounttexts.numerals.

An amount is a pair of a coin's number (0: none) and a value in lowest terms.
"""

from amounttexts.book import BRACKETS, DR_AND_CR, MINUS_AHEAD, MINUS_BEHIND, PLUS_AHEAD
from amounttexts.book import COIN_AHEAD, COIN_AHEAD_AND_BLANK, COIN_BEHIND, COIN_BEHIND_BLANK, COIN_MUST_STAND
from amounttexts.numerals import Unbegun
from amounttexts.ratio import is_less, lowest
from amounttexts.signs import BLANK, CLOSING, MINUS, OPENING, PLUS, bytes_of

FIRST_NOT_TO_FOLLOW = 128


# What may stand behind a number: its bytes, by what it (with its head) multiplies the number, and the coin.
class Tail:
    def __init__(self, text, factor, coin):
        self.text = text
        self.factor = factor
        self.coin = coin


# A way of reading that is within a head: the head's bytes to come, at least one, and the tails that may stand.
class Ahead:
    def __init__(self, rest, tails):
        self.rest = rest
        self.tails = tails

    def onward(self, habit, byte):
        if self.rest[0] != byte:
            return []
        return [way_from(self.rest[1:], self.tails)]

    def amounts(self, habit):
        return []


# A way of reading that is within the number: its state, and the tails that may stand.
class Within:
    def __init__(self, state, tails):
        self.state = state
        self.tails = tails

    def onward(self, habit, byte):
        ways = [Within(state, self.tails) for state in self.state.beyond(habit, byte)]
        pair = self.state.said(habit)
        if pair is not None:
            for tail in self.tails:
                if tail.text[:1] == [byte]:
                    ways.append(Behind(tail.text[1:], tail, pair))
        return ways

    def amounts(self, habit):
        pair = self.state.said(habit)
        if pair is None:
            return []
        return [amount_with(tail, pair) for tail in self.tails if tail.text == []]


# A way of reading that is within a tail: the tail's bytes to come, the tail, and the number ahead of it.
class Behind:
    def __init__(self, rest, tail, pair):
        self.rest = rest
        self.tail = tail
        self.pair = pair

    def onward(self, habit, byte):
        if self.rest[:1] != [byte]:
            return []
        return [Behind(self.rest[1:], self.tail, self.pair)]

    def amounts(self, habit):
        if self.rest != []:
            return []
        return [amount_with(self.tail, self.pair)]


# The way of reading for which this rest of a head is still to come.
def way_from(rest, tails):
    if rest == []:
        return Within(Unbegun(), tails)
    return Ahead(rest, tails)


def amount_with(tail, pair):
    return (tail.coin, lowest((pair[0] * tail.factor, pair[1])))


# Each text of each coin, with the coin's number.
def coin_texts(coins):
    texts = []
    for number in coins:
        for text in coins[number].texts():
            texts.append((text, number))
    return texts


# What a head may hold behind its sign, with the coin's number.
def coins_ahead(habit, coins):
    parts = [([], 0)]
    for text, number in coin_texts(coins):
        if habit.coins & COIN_AHEAD != 0:
            parts.append((text, number))
        if habit.coins & COIN_AHEAD_AND_BLANK != 0:
            parts.append((text + [BLANK], number))
    return parts


# What a tail may hold ahead of its sign, with the coin's number, if no coin is in the head.
def coins_behind(habit, coins):
    parts = []
    if habit.coins & COIN_MUST_STAND == 0:
        parts.append(([], 0))
    for text, number in coin_texts(coins):
        if habit.coins & COIN_BEHIND != 0:
            parts.append((text, number))
        if habit.coins & COIN_BEHIND_BLANK != 0:
            parts.append(([BLANK] + text, number))
    return parts


# The signs that may stand behind all, each with its factor, if no sign is ahead.
def signs_behind(habit):
    signs = [([], 1)]
    if habit.signs & MINUS_BEHIND != 0:
        signs.append(([MINUS], -1))
    if habit.signs & DR_AND_CR != 0:
        signs.append((bytes_of(" dr"), -1))
        signs.append((bytes_of(" cr"), 1))
    return signs


# The signs that may stand ahead of all, each with the signs that may then stand behind all.
def sign_pairs(habit):
    pairs = [([], signs_behind(habit))]
    if habit.signs & MINUS_AHEAD != 0:
        pairs.append(([MINUS], [([], -1)]))
    if habit.signs & PLUS_AHEAD != 0:
        pairs.append(([PLUS], [([], 1)]))
    if habit.signs & BRACKETS != 0:
        pairs.append(([OPENING], [([CLOSING], -1)]))
    return pairs


def tails_of(parts, signs):
    tails = []
    for text, coin in parts:
        for sign, factor in signs:
            tails.append(Tail(text + sign, factor, coin))
    return tails


# The ways of reading ahead of the first byte. A head for which no tail is let is left out: no text has it.
def beginnings(habit, coins):
    ways = []
    behind = coins_behind(habit, coins)
    for sign, signs in sign_pairs(habit):
        for text, coin in coins_ahead(habit, coins):
            parts = behind if coin == 0 else [([], coin)]
            tails = tails_of(parts, signs)
            if tails != []:
                ways.append(way_from(sign + text, tails))
    return ways


def ways_onward(habit, ways, byte):
    found = []
    for way in ways:
        found.extend(way.onward(habit, byte))
    return found


def can_go_on(habit, ways, byte):
    return ways_onward(habit, ways, byte) != []


# The amounts, each once, by the coins' numbers and then by the values.
def in_order(amounts):
    ordered = []
    for amount in amounts:
        if amount not in ordered:
            place = len([other for other in ordered if comes_before(other, amount)])
            ordered.insert(place, amount)
    return ordered


def comes_before(one, two):
    if one[0] != two[0]:
        return one[0] < two[0]
    return is_less(one[1], two[1])


# A text read by a habit: how many of its bytes can stand, and the ways of reading that are left behind these.
class Reading:
    def __init__(self, habit, coins, text):
        self.habit = habit
        self.length = len(text)
        self.stood = 0
        self.ways = beginnings(habit, coins)
        for byte in text:
            ways = ways_onward(habit, self.ways, byte)
            if ways == []:
                break
            self.ways = ways
            self.stood += 1

    # What the text says, in order.
    def amounts(self):
        if self.stood < self.length:
            return []
        found = []
        for way in self.ways:
            found.extend(way.amounts(self.habit))
        return in_order(found)

    # The bytes that may follow the text, rising.
    def followers(self):
        if self.stood < self.length:
            return []
        return [byte for byte in range(FIRST_NOT_TO_FOLLOW) if can_go_on(self.habit, self.ways, byte)]
