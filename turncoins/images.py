"""Rows of gates: their images, and a start that tells two of them from one another."""

from turncoins.gates import check_gates
from turncoins.rows import rows_moved
from turncoins.spans import least_rows


def images(coins, gates):
    check_gates(gates, coins)
    bits = [1 << coin for coin in range(coins)]
    return rows_moved([(1, bit, 0) for bit in bits] + [(1, 0, bit) for bit in bits], gates)


def start_list(start):
    faces = sum([1 << coin for coin, sign in enumerate(start) if sign == "0"])
    return [1 if place & faces == 0 else 0 for place in range(1 << len(start))]


def starts_of(coins):
    starts = [""]
    for coin in range(coins):
        starts = [start + "0" for start in starts] + [start + "+" for start in starts]
    return starts


def rows_from(start, table):
    # A coin on its face is kept by (1, 0, 2 ** c), one that lies both ways alike by (1, 2 ** c, 0).
    return least_rows([table[coin if sign == "+" else coin + len(start)] for coin, sign in enumerate(start)])


def parting(coins, one, other):
    by_one = images(coins, one)
    by_other = images(coins, other)
    for start in starts_of(coins):
        if rows_from(start, by_one) != rows_from(start, by_other):
            return start
    return None
