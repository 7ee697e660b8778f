"""Coins told the long way, by a list, or the short way, by rows, asked alike.

A telling is a tuple of the way and of what tells the coins: a list in least form, or rows in least form.
"""

from turncoins.bridges import list_of, overlap, rows_of
from turncoins.gates import check_gates, turned_by
from turncoins.lists import coins_of, first_list
from turncoins.looks import chance, looked
from turncoins.rows import rows_moved
from turncoins.shorts import checked, first_rows, rows_looked
from turncoins.ties import ties

LONG = "long"
SHORT = "short"


def is_way(word):
    return word in (LONG, SHORT)


def is_long(telling):
    return telling[0] == LONG


def first_telling(coins, way):
    return (way, first_list(coins) if way == LONG else first_rows(coins))


def coins_told(telling):
    return coins_of(telling[1]) if is_long(telling) else len(telling[1])


def telling_turned(telling, gates):
    if is_long(telling):
        return (LONG, turned_by(telling[1], gates))
    check_gates(gates, coins_told(telling))
    return (SHORT, checked(rows_moved(telling[1], gates)))


def telling_looked(telling, row, wish):
    look = looked(telling[1], row, wish) if is_long(telling) else rows_looked(telling[1], row, wish)
    return (look[0], look[1], (telling[0], look[2]))


def chance_by(telling, row):
    if is_long(telling):
        return chance(telling[1], row)
    look = rows_looked(telling[1], row, 0)
    # Against the wish 1 is told for sure alone, so 0 has no chance then.
    return look[1] if look[0] == 0 else (0, 1)


def list_by(telling):
    return list(telling[1]) if is_long(telling) else list_of(telling[1])


def rows_by(telling):
    return rows_of(telling[1]) if is_long(telling) else list(telling[1])


def overlap_by(one, other):
    return overlap(list_by(one), list_by(other))


def ties_by(telling, part):
    return ties(rows_by(telling), part)
