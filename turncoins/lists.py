"""Lists of whole numbers, one number for each place of the coins, and their least form."""

from turncoins.errors import NoList

MOST_COINS = 6
LENGTHS = (2, 4, 8, 16, 32, 64)


def check_list(numbers):
    if len(numbers) not in LENGTHS:
        raise NoList("a list has 2, 4, 8, 16, 32 or 64 numbers")
    if not any(numbers):
        raise NoList("a list has a number that isn't 0")


def coins_of(numbers):
    return len(numbers).bit_length() - 1


def greatest_divisor(one, other):
    while other != 0:
        rest = one % other
        one = other
        other = rest
    return one


def divisor_of_all(numbers):
    divisor = 0
    for number in numbers:
        divisor = greatest_divisor(divisor, abs(number))
    return divisor


def begins_below_nought(numbers):
    return [number for number in numbers if number != 0][0] < 0


def least(numbers):
    check_list(numbers)
    divisor = divisor_of_all(numbers)
    if begins_below_nought(numbers):
        divisor = -divisor
    # The divisor divides each number, so // loses nothing, whatever the signs.
    return [number // divisor for number in numbers]


def first_list(coins):
    # The refusal doesn't show the number, since Python won't write out one with very many digits.
    if coins < 1 or coins > MOST_COINS:
        raise NoList("a list tells 1 to 6 coins")
    return [1] + [0] * (LENGTHS[coins - 1] - 1)
