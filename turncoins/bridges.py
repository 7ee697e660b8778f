"""From rows to the list that they keep, from a list to the rows that keep it, and how far two of them overlap."""

from turncoins.errors import NoShort
from turncoins.lists import check_list, coins_of, least
from turncoins.looks import fraction, list_behind, sum_of_products
from turncoins.rows import bit_of, count_bits, laid, with_sign_changed
from turncoins.shorts import checked
from turncoins.spans import leading_column, least_rows, made_of


def leads_of(rows):
    # In least form no two rows lead with the same bit, so the sum has just the bits of all.
    return sum([leading_column(row)[1] for row in rows])


def place_within(rows):
    # A row without xs tells how many of its coins lie on their backs, odd or even; its lead is in no other row.
    return leads_of([row for row in rows if row[0] == -1 and row[1] == 0])


def list_of(rows):
    standing = checked(rows)
    start = place_within(standing)
    numbers = [1 if place == start else 0 for place in range(1 << len(standing))]
    for row in standing:
        # Behind a look that told 0 the row keeps the list, and those that kept it before still do.
        numbers = list_behind(numbers, laid(numbers, row), 0)
    return numbers


# A way is a row without zs: its xs lead from a place whose number isn't 0 to another one.

def ways_from(numbers, start):
    ways = []
    for place, number in enumerate(numbers):
        way = (1, place ^ start, 0)
        if number != 0 and made_of(ways, way) is None:
            ways = least_rows(ways + [way])
    return ways


def row_keeping(numbers, start, xs, zs):
    # The number of the start is above 0, so the sign is that of the number at the place which it is sent to.
    sign = -1 if numbers[start ^ xs] < 0 else 1
    return (with_sign_changed(sign, count_bits(start & zs)), xs, zs)


def changes_sign(numbers, start, one, other):
    # Of the four places that the two ways lead to, the start itself has a number above 0.
    met = [numbers[start ^ one], numbers[start ^ other], numbers[start ^ one ^ other]]
    return len([number for number in met if number < 0]) % 2 == 1


def row_along(numbers, start, way, ways):
    zs = leads_of([other for other in ways if changes_sign(numbers, start, way[1], other[1])])
    return row_keeping(numbers, start, way[1], zs)


def row_across(numbers, start, coin, ways):
    zs = (1 << coin) + leads_of([way for way in ways if bit_of(way[1], coin) == 1])
    return row_keeping(numbers, start, 0, zs)


def rows_fitting(numbers):
    # Free rows whatever the numbers are, and the only ones that may keep them all: whether they do is asked behind.
    start = [place for place, number in enumerate(numbers) if number != 0][0]
    ways = ways_from(numbers, start)
    leads = leads_of(ways)
    along = [row_along(numbers, start, way, ways) for way in ways]
    others = [coin for coin in range(coins_of(numbers)) if bit_of(leads, coin) == 0]
    return least_rows(along + [row_across(numbers, start, coin, ways) for coin in others])


def rows_of(numbers):
    told = least(numbers)
    rows = rows_fitting(told)
    if not all([laid(told, row) == told for row in rows]):
        raise NoShort("as many free rows as coins keep no such list")
    return rows


def overlap(one, other):
    check_list(one)
    check_list(other)
    both = sum_of_products(one, other)
    return fraction(both * both, sum_of_products(one, one) * sum_of_products(other, other))


def rows_overlap(one, other):
    return overlap(list_of(one), list_of(other))
