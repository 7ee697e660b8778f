"""What rows make when they are multiplied, and the least form of rows that stand free."""

from turncoins.errors import NotFree
from turncoins.rows import agree, is_even, letters, product

# The parts of a row that have columns, by their numbers in the tuple.
XS = 1
ZS = 2


def leading_column(row):
    # All columns of xs come ahead of those of zs, so pairs of part and bit rise as the columns do.
    part = ZS if row[XS] == 0 else XS
    return (part, row[part] & -row[part])


def has_column(row, column):
    return (row[column[0]] & column[1]) != 0


def check_even(rows):
    for at, row in enumerate(rows):
        if not is_even(row):
            raise NotFree([at])


def check_agreeing(rows):
    for at, row in enumerate(rows):
        for before in range(at):
            if not agree(rows[before], row):
                raise NotFree([before, at])


# A made row is a pair of a row and a whole number whose bit k is 1 where row k is among those that it is made of.

def made_product(one, other):
    return (product(one[0], other[0]), one[1] ^ other[1])


def made_leading_column(made):
    return leading_column(made[0])


def cleared(made, others):
    for other in others:
        if has_column(made[0], made_leading_column(other)):
            made = made_product(made, other)
    return made


def numbers_made_of(made):
    return [at for at in range(made[1].bit_length()) if (made[1] >> at) & 1 == 1]


def least_made(rows):
    check_even(rows)
    check_agreeing(rows)
    coming = []
    for at, row in enumerate(rows):
        made = cleared((row, 1 << at), coming)
        if letters(made[0]) == 0:
            raise NotFree(numbers_made_of(made))
        coming = [cleared(other, [made]) for other in coming] + [made]
    return sorted(coming, key=made_leading_column)


def made_of(rows, row):
    # Free rows times themselves are (1, 0, 0), so the row times what it is made of leaves the sign alone.
    rest = cleared((row, 0), least_made(rows))
    if letters(rest[0]) != 0:
        return None
    return (numbers_made_of(rest), rest[0][0])


def least_rows(rows):
    # Each tuple is made anew, since one that needed no clearing is still the one that was handed in.
    return [(made[0][0], made[0][1], made[0][2]) for made in least_made(rows)]
