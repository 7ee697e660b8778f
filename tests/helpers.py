"""What several tests need: lists to try, all gates, and the document's own words on gates, told another way."""

from fractions import Fraction
from itertools import product
from math import gcd

COIN_COUNTS = (1, 2, 3, 4, 5, 6)
ONE_COIN_WORDS = ("mix", "flip", "sign")
TWO_COIN_WORDS = ("follow", "meet", "swap")
GREAT = 10 ** 30
WRONG_LENGTHS = (0, 1, 3, 5, 6, 7, 9, 12, 15, 17, 24, 31, 33, 48, 63, 65, 96, 127, 128, 256)


class Numbers:
    """The same run of numbers for the same seed, on every Python."""

    def __init__(self, seed):
        self.state = 2 * seed + 1

    def below(self, bound):
        drawn = 0
        reach = 1
        while reach < bound * 2 ** 16:
            self.state = (self.state * 6364136223846793005 + 1442695040888963407) % 2 ** 64
            drawn = drawn * 2 ** 32 + self.state // 2 ** 32
            reach *= 2 ** 32
        return drawn % bound

    def between(self, low, high):
        return low + self.below(high - low + 1)

    def choice(self, things):
        return things[self.below(len(things))]


def lists_to_try(coins, seed=0):
    """Lists of so many coins: one number alone, small, sparse, with a common divisor, and great ones."""
    numbers = Numbers(1000 * seed + coins)
    length = 2 ** coins
    tried = [[number if place == at else 0 for place in range(length)] for at in (0, length - 1) for number in (1, -3)]
    tried.append([1] * length)
    tried.append([-2] * length)
    tried.append([place + 1 for place in range(length)])
    for reach in (1, 9, GREAT):
        tried.append([numbers.between(-reach, reach) for place in range(length)])
        sparse = [0] * length
        for times in range(max(1, length // 8)):
            sparse[numbers.below(length)] = numbers.between(1, reach) * numbers.choice((1, -1))
        tried.append(sparse)
    tried.append([6 * numbers.between(-9, 9) for place in range(length)])
    tried.append([GREAT] + [-GREAT] * (length - 1))
    tried.append([-GREAT] + [GREAT - 1] * (length - 1))
    return [one for one in tried if any(one)]


def all_gates(coins):
    gates = [(word, coin) for word in ONE_COIN_WORDS for coin in range(coins)]
    for word in TWO_COIN_WORDS:
        gates += [(word, one, other) for one in range(coins) for other in range(coins) if one != other]
    return gates


def row_of_gates(coins, many, seed):
    numbers = Numbers(seed)
    gates = all_gates(coins)
    return [numbers.choice(gates) for times in range(many)]


def plain_least(numbers):
    divisor = gcd(*numbers)
    first = next(number for number in numbers if number)
    return [number // divisor * (1 if first > 0 else -1) for number in numbers]


def plain_overlap(one, other):
    both = sum(a * b for a, b in zip(one, other))
    return Fraction(both ** 2, sum(a * a for a in one) * sum(b * b for b in other))


def by_sides(numbers):
    """A dict from how all coins lie, coin 0 first (0 face, 1 back), to the number."""
    coins = len(numbers).bit_length() - 1
    return {sides: numbers[sum(side * 2 ** coin for coin, side in enumerate(sides))]
            for sides in product((0, 1), repeat=coins)}


def by_places(table):
    numbers = [None] * len(table)
    for sides, number in table.items():
        numbers[sum(side * 2 ** coin for coin, side in enumerate(sides))] = number
    return numbers


def laid_so(sides, coin, side):
    return sides[:coin] + (side,) + sides[coin + 1:]


def change_places(table, pairs):
    for one, other in pairs:
        table[one], table[other] = table[other], table[one]


def plain_turned(numbers, gate):
    """What point 5 says, pair of places by pair of places, over a table of how the coins lie."""
    table = by_sides(numbers)
    word, coins = gate[0], gate[1:]
    last = coins[-1]
    pairs = [(sides, laid_so(sides, last, 1)) for sides in table if sides[last] == 0]
    if word == "mix":
        for face, back in pairs:
            a, b = table[face], table[back]
            table[face], table[back] = a + b, a - b
    elif word == "flip":
        change_places(table, pairs)
    elif word == "sign":
        for face, back in pairs:
            table[back] = -table[back]
    elif word == "follow":
        change_places(table, [pair for pair in pairs if pair[0][coins[0]] == 1])
    elif word == "meet":
        for sides in table:
            if sides[coins[0]] == 1 and sides[coins[1]] == 1:
                table[sides] = -table[sides]
    elif word == "swap":
        alone = [sides for sides in table if sides[coins[0]] == 1 and sides[coins[1]] == 0]
        change_places(table, [(sides, laid_so(laid_so(sides, coins[0], 0), coins[1], 1)) for sides in alone])
    return plain_least(by_places(table))
