"""Gates for a table of images."""

from turncoins.errors import NoTable
from turncoins.lists import MOST_COINS
from turncoins.rows import agree, bit_of, is_even, is_row, rows_moved


def check_rows_of_table(table, coins):
    for row in table:
        if not is_row(row, coins) or not is_even(row):
            raise NoTable("a table has even rows with the sign 1 or -1 and bits within the coins")


def check_agreeing_of_table(table, coins):
    for at, row in enumerate(table):
        for before in range(at):
            if agree(table[before], row) == (at == before + coins):
                raise NoTable("the rows c and c + coins of a table disagree, and no others do")


def check_table(table):
    coins = len(table) // 2
    if len(table) != 2 * coins or coins < 1 or coins > MOST_COINS:
        raise NoTable("a table has twice as many rows as coins, of which there are 1 to 6")
    check_rows_of_table(table, coins)
    check_agreeing_of_table(table, coins)


def coins_with(bits):
    return [coin for coin in range(bits.bit_length()) if bit_of(bits, coin) == 1]


def meets_in_pairs(coins):
    return [("meet", coins[at], coins[at + 1]) for at in range(0, len(coins) - 1, 2)]


def gates_to_x(row, coin):
    # An even row has both bits at an even number of coins, and a meet takes the zs off two of them.
    both = row[1] & row[2]
    mixes = [("mix", other) for other in coins_with(row[2] ^ both)]
    there = coins_with(row[1] | row[2])
    follows = [("follow", there[0], other) for other in there[1:]]
    swaps = [("swap", there[0], coin)] if there[0] != coin else []
    return meets_in_pairs(coins_with(both)) + mixes + follows + swaps


def bits_elsewhere(bits, coin):
    return bits ^ (bit_of(bits, coin) << coin)


def gates_to_z(row, coin):
    # All of these leave (1, 2 ** coin, 0) as it is: no mix or meet at the coin, and it leads no follow.
    xs = bits_elsewhere(row[1], coin)
    zs = bits_elsewhere(row[2], coin)
    both = coins_with(xs & zs)
    # One is left over just where the coin itself has both bits, and there a follow takes one off each of the two.
    left_over = both[len(both) // 2 * 2:]
    follows = [("follow", other, coin) for other in left_over]
    mixes = [("mix", other) for other in coins_with(xs)]
    return meets_in_pairs(both) + follows + mixes + [("follow", other, coin) for other in coins_with(xs | zs)]


def gates_for_signs(rows, coins):
    signs = [("sign", coin) for coin in range(coins) if rows[coin][0] == -1]
    return signs + [("flip", coin) for coin in range(coins) if rows[coin + coins][0] == -1]


def gates_of(table):
    check_table(table)
    coins = len(table) // 2
    rows = list(table)
    gates = []
    for coin in range(coins):
        to_x = gates_to_x(rows[coin], coin)
        rows = rows_moved(rows, to_x)
        to_z = gates_to_z(rows[coin + coins], coin)
        rows = rows_moved(rows, to_z)
        gates = gates + to_x + to_z
    # These lead from the table to the rows of no gates, and each gate undoes itself, so they are told from the end.
    return list(reversed(gates + gates_for_signs(rows, coins)))
