"""How many ties a part of the coins has with the rest."""

from turncoins.rows import count_bits, product
from turncoins.shorts import checked


def products_of(rows):
    products = [(1, 0, 0)]
    for row in rows:
        products = products + [product(made, row) for made in products]
    return products


def has_letters_within(row, part):
    return (row[1] | row[2] | part) == part


def ties(rows, part):
    within = [row for row in products_of(checked(rows)) if has_letters_within(row, part)]
    # So many free rows have two to the power of so many products, and these are all that lie within the part.
    free = len(within).bit_length() - 1
    return count_bits(part) - free
