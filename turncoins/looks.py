"""Looks at lists: what is told, by which chance, and the list behind the look."""

from turncoins.errors import NoLook
from turncoins.lists import check_list, coins_of, greatest_divisor, least
from turncoins.rows import is_even, is_row, laid


def check_look(row, coins):
    if not is_row(row, coins) or not is_even(row):
        raise NoLook("looked at is an even row with the sign 1 or -1 and bits within the coins")


def check_list_and_look(numbers, row):
    check_list(numbers)
    check_look(row, coins_of(numbers))


def fraction(top, bottom):
    divisor = greatest_divisor(top, bottom)
    return (top // divisor, bottom // divisor)


def sign_told(told):
    return -1 if told == 1 else 1


def sum_of_products(one, other):
    return sum([a * b for a, b in zip(one, other)])


def chance_told(numbers, sent, told):
    whole = sum_of_products(numbers, numbers)
    return fraction(whole + sign_told(told) * sum_of_products(numbers, sent), 2 * whole)


def list_behind(numbers, sent, told):
    sign = sign_told(told)
    return least([a + sign * b for a, b in zip(numbers, sent)])


def chance(numbers, row):
    check_list_and_look(numbers, row)
    return chance_told(numbers, laid(numbers, row), 0)


def looked(numbers, row, wish=0):
    check_list_and_look(numbers, row)
    sent = laid(numbers, row)
    told = wish
    if chance_told(numbers, sent, wish)[0] == 0:
        told = 1 - wish
    return (told, chance_told(numbers, sent, told), list_behind(numbers, sent, told))
