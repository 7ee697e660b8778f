"""The short way: coins told by as many free rows as there are coins, turned and looked at."""

from turncoins.errors import NoRows
from turncoins.gates import check_gates
from turncoins.lists import MOST_COINS
from turncoins.looks import check_look, fraction, sign_told
from turncoins.rows import agree, is_row, product, rows_moved
from turncoins.spans import least_rows, made_of


def check_rows(rows):
    if len(rows) < 1 or len(rows) > MOST_COINS:
        raise NoRows("1 to 6 rows tell coins")
    for row in rows:
        if not is_row(row, len(rows)):
            raise NoRows("a row has the sign 1 or -1 and bits within the coins, as many as rows")


def first_rows(coins):
    # The refusal doesn't show the number, since Python won't write out one with very many digits.
    if coins < 1 or coins > MOST_COINS:
        raise NoRows("rows tell 1 to 6 coins")
    return [(1, 0, 1 << coin) for coin in range(coins)]


def checked(rows):
    check_rows(rows)
    return least_rows(rows)


def rows_turned(rows, gate):
    standing = checked(rows)
    check_gates([gate], len(standing))
    return least_rows(rows_moved(standing, [gate]))


def told_for_sure(rows, row):
    return 0 if made_of(rows, row)[1] == 1 else 1


def rows_behind(rows, row, told):
    seen = (sign_told(told) * row[0], row[1], row[2])
    agreeing = [other for other in rows if agree(other, row)]
    against = [other for other in rows if not agree(other, row)]
    # Two rows that disagree with the row looked at have a product that agrees with it, so just one is lost.
    paired = [product(against[0], other) for other in against[1:]]
    return least_rows([seen] + agreeing + paired)


def rows_looked(rows, row, wish=0):
    standing = checked(rows)
    check_look(row, len(standing))
    if all([agree(other, row) for other in standing]):
        return (told_for_sure(standing, row), fraction(1, 1), standing)
    return (wish, fraction(1, 2), rows_behind(standing, row, wish))
