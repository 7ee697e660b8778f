"""Rows of signs: tuples (sign, xs, zs), which are laid on lists, multiplied, and moved by gates."""

from turncoins.gates import check_gates
from turncoins.lists import MOST_COINS


def count_bits(bits):
    many = 0
    while bits > 0:
        many = many + (bits & 1)
        bits = bits >> 1
    return many


def bit_of(bits, coin):
    return (bits >> coin) & 1


def with_sign_changed(number, often):
    return -number if often % 2 == 1 else number


def is_row(row, coins):
    if row[0] != 1 and row[0] != -1:
        return False
    beyond = 1 << coins
    return 0 <= row[1] < beyond and 0 <= row[2] < beyond


def number_sent(numbers, place, row):
    return with_sign_changed(row[0] * numbers[place], count_bits(place & row[2]))


def laid(numbers, row):
    # What comes to a place was sent from the place that differs from it in xs.
    return [number_sent(numbers, place ^ row[1], row) for place in range(len(numbers))]


def product(one, other):
    # The other one is laid first, so what the one's zs are asked of has the other's xs turned already.
    sign = with_sign_changed(one[0] * other[0], count_bits(one[2] & other[1]))
    return (sign, one[1] ^ other[1], one[2] ^ other[2])


def agree(one, other):
    return (count_bits(one[1] & other[2]) + count_bits(one[2] & other[1])) % 2 == 0


def is_even(row):
    return count_bits(row[1] & row[2]) % 2 == 0


def letters(row):
    return count_bits(row[1] | row[2])


def moved_by_mix(row, coin):
    x = bit_of(row[1], coin)
    z = bit_of(row[2], coin)
    unlike = (x ^ z) << coin
    return (with_sign_changed(row[0], x & z), row[1] ^ unlike, row[2] ^ unlike)


def moved_by_flip(row, coin):
    return (with_sign_changed(row[0], bit_of(row[2], coin)), row[1], row[2])


def moved_by_sign(row, coin):
    return (with_sign_changed(row[0], bit_of(row[1], coin)), row[1], row[2])


def moved_by_follow(row, leader, follower):
    xs = row[1] ^ (bit_of(row[1], leader) << follower)
    zs = row[2] ^ (bit_of(row[2], follower) << leader)
    return (row[0], xs, zs)


def moved_by_meet(row, one, other):
    x_one = bit_of(row[1], one)
    x_other = bit_of(row[1], other)
    zs = row[2] ^ (x_one << other) ^ (x_other << one)
    return (with_sign_changed(row[0], x_one & x_other), row[1], zs)


def bits_swapped(bits, one, other):
    unlike = bit_of(bits, one) ^ bit_of(bits, other)
    return bits ^ (unlike << one) ^ (unlike << other)


def moved_by_swap(row, one, other):
    return (row[0], bits_swapped(row[1], one, other), bits_swapped(row[2], one, other))


def row_behind(row, gate):
    word = gate[0]
    if word == "mix":
        return moved_by_mix(row, gate[1])
    if word == "flip":
        return moved_by_flip(row, gate[1])
    if word == "sign":
        return moved_by_sign(row, gate[1])
    if word == "follow":
        return moved_by_follow(row, gate[1], gate[2])
    if word == "meet":
        return moved_by_meet(row, gate[1], gate[2])
    return moved_by_swap(row, gate[1], gate[2])


def rows_moved(rows, gates):
    for gate in gates:
        rows = [row_behind(row, gate) for row in rows]
    return rows


def moved(row, gate):
    # A row doesn't tell how many coins there are, so all that there may be count.
    check_gates([gate], MOST_COINS)
    return row_behind(row, gate)
