import unittest
from itertools import product

from tests.helpers import (COIN_COUNTS, GREAT, Numbers, all_gates, all_tables_by_gates, minus, plain_agree,
                           plain_even, plain_laid, plain_product, raw_turned_by, row_of_gates, unit_lists,
                           whole_turning)
from turncoins.errors import NoTable
from turncoins.images import images, parting
from turncoins.making import gates_of


def in_common(one, other):
    return bin(one & other).count("1") % 2


def drawn_table(coins, seed, first=None):
    """Rows drawn two by two from all that agree with those before, no gates asked; the first may be told."""
    numbers = Numbers(100 * seed + coins)
    left = [(xs, zs) for xs in range(2 ** coins) for zs in range(2 ** coins) if in_common(xs, zs) == 0]
    xs_rows, zs_rows = [], []
    for times in range(coins):
        one = numbers.choice([row for row in left if row != (0, 0)])
        if first is not None and times == 0:
            one = first
        apart = {row: in_common(one[0], row[1]) ^ in_common(one[1], row[0]) for row in left}
        other = numbers.choice([row for row in left if apart[row] == 1])
        left = [row for row in left if apart[row] == in_common(other[0], row[1]) ^ in_common(other[1], row[0]) == 0]
        xs_rows.append((numbers.choice((1, -1)),) + one)
        zs_rows.append((numbers.choice((1, -1)),) + other)
    return xs_rows + zs_rows


def is_table(table):
    """Point 22, by the products of rows, of as many rows as there may be."""
    coins = len(table) // 2
    if not all(plain_even(row) for row in table):
        return False
    return all(plain_agree(table[one], table[other]) != (other - one == coins)
               for other in range(len(table)) for one in range(other))


def tables(seeds):
    return [drawn_table(coins, seed) for coins in COIN_COUNTS for seed in range(seeds)]


class GatesOf(unittest.TestCase):
    def check(self, table):
        coins = len(table) // 2
        gates = gates_of(table)
        self.assertIs(gates.__class__, list)
        self.assertLessEqual(len(gates), 200)
        for gate in gates:
            self.assertIn(gate, all_gates(coins))
        self.assertEqual(images(coins, gates), table)
        return gates

    def test_ordinary_tables(self):
        for table in (
                [(1, 1, 0), (1, 0, 1)],
                [(1, 0, 1), (1, 1, 0)],
                [(-1, 0, 1), (1, 1, 0)],
                [(1, 3, 0), (1, 2, 0), (1, 0, 1), (1, 0, 3)],
                [(1, 1, 2), (-1, 2, 1), (1, 0, 1), (1, 0, 2)],
                [(1, 3, 3), (1, 3, 0), (1, 1, 0), (1, 1, 2)],
                [(1, 0, 2), (1, 4, 0), (1, 0, 1), (1, 2, 0), (-1, 0, 4), (1, 1, 0)]):
            with self.subTest(table):
                self.assertTrue(is_table(table))
                self.check(table)

    def test_of_no_gates(self):
        for coins in COIN_COUNTS:
            self.check(images(coins, []))

    def test_all_tables_of_one_and_two_coins(self):
        for coins, many in ((1, 8), (2, 1152)):
            found = all_tables_by_gates(coins, images)
            self.assertEqual(len(found), many)
            for table in found:
                self.check(list(table))

    def test_images_of_rows_of_gates(self):
        for coins in COIN_COUNTS:
            for seed in range(20):
                for many in (1, 2, 5, 60):
                    self.check(images(coins, row_of_gates(coins, many, seed)))

    def test_each_gate_alone(self):
        for coins in COIN_COUNTS:
            for gate in all_gates(coins):
                self.check(images(coins, [gate]))

    def test_drawn_tables(self):
        for table in tables(25):
            self.check(table)

    def test_any_signs(self):
        for coins, seeds in ((1, 1), (2, 3), (3, 2), (4, 1)):
            for seed in range(seeds):
                table = drawn_table(coins, 50 + seed)
                for signs in product((1, -1), repeat=2 * coins):
                    self.check([(sign,) + row[1:] for sign, row in zip(signs, table)])
        for coins in (5, 6):
            table = drawn_table(coins, 60)
            for at in range(2 * coins):
                self.check(table[:at] + [minus(table[at])] + table[at + 1:])
            self.check([minus(row) for row in table])

    def test_rows_with_both_bits_at_many_coins(self):
        for coins in (2, 4, 6):
            top = 2 ** coins - 1
            for seed in range(8):
                table = drawn_table(coins, seed, (top, top))
                self.assertEqual(table[0][1:], (top, top))
                self.check(table)
                self.check(table[coins:] + table[:coins])
                self.check(table[coins - 1::-1] + table[:coins - 1:-1])

    def test_they_do_what_the_gates_did(self):
        for coins in COIN_COUNTS:
            for seed in range(5):
                gates = row_of_gates(coins, 30, seed)
                told = gates_of(images(coins, gates))
                self.assertIsNone(parting(coins, gates, told))
                if coins < 4:
                    self.assertEqual(whole_turning(coins, told), whole_turning(coins, gates))

    def test_laid_behind_the_told_gates_the_table_does_what_the_rows_do_ahead(self):
        for coins in (1, 2, 3):
            for seed in range(4):
                table = drawn_table(coins, 80 + seed)
                gates = gates_of(table)
                rows = [(1, 2 ** coin, 0) for coin in range(coins)] + [(1, 0, 2 ** coin) for coin in range(coins)]
                for row, image in zip(rows, table):
                    for numbers in unit_lists(coins):
                        self.assertEqual(plain_laid(raw_turned_by(numbers, gates), image),
                                         raw_turned_by(plain_laid(numbers, row), gates))


class NoTables(unittest.TestCase):
    def refused(self, table):
        with self.subTest(table), self.assertRaises(NoTable):
            gates_of(table)

    def test_other_numbers_of_rows(self):
        self.refused([])
        for coins in (7, 8, 12):
            self.refused([(1, 2 ** coin, 0) for coin in range(coins)] + [(1, 0, 2 ** coin) for coin in range(coins)])
        for table in tables(2):
            for many in range(len(table)):
                if table[:many] != table:
                    self.refused_unless_table(table[:many])
            for more in ((1, 0, 0), table[0], table[-1]):
                self.refused(table + [more])
                self.refused([more] + table)
        self.refused([(1, 1, 0)])
        self.refused([(1, 1, 0), (1, 0, 1), (1, 0, 0)])
        self.refused([(1, 1, 0)] * 14)

    def refused_unless_table(self, table):
        within = all(0 <= bits < 2 ** (len(table) // 2) for row in table for bits in row[1:])
        if not (len(table) in (2, 4, 6, 8, 10, 12) and within and is_table(table)):
            self.refused(table)

    def test_signs(self):
        for table in tables(2):
            for at, row in enumerate(table):
                for sign in (0, 2, -2, 3, GREAT, -GREAT):
                    self.refused(table[:at] + [(sign,) + row[1:]] + table[at + 1:])

    def test_bits_beyond_the_coins(self):
        for table in tables(2):
            coins = len(table) // 2
            beyond = 2 ** coins
            for at, (sign, xs, zs) in enumerate(table):
                for row in ((sign, xs + beyond, zs), (sign, xs, zs + beyond), (sign, xs + 2 * beyond, zs),
                            (sign, xs + beyond, zs + 2 * beyond)):
                    changed = table[:at] + [row] + table[at + 1:]
                    # No other row has letters beyond, so this is the one fault.
                    self.assertTrue(is_table(changed))
                    self.refused(changed)
                self.refused(table[:at] + [(sign, xs + GREAT * beyond, zs)] + table[at + 1:])
                self.refused(table[:at] + [(sign, xs, zs + GREAT * beyond)] + table[at + 1:])

    def test_bits_below_0(self):
        for table in tables(2):
            beyond = 2 ** (len(table) // 2)
            for at, (sign, xs, zs) in enumerate(table):
                for row in ((sign, -1, zs), (sign, xs, -1), (sign, -1, -1), (sign, xs - beyond, zs),
                            (sign, xs, zs - beyond), (sign, -GREAT, 0)):
                    self.refused(table[:at] + [row] + table[at + 1:])

    def test_rows_that_are_not_even(self):
        for table in tables(3):
            coins = len(table) // 2
            for at in range(2 * coins):
                odd = plain_product(table[at], table[(at + coins) % (2 * coins)])
                self.assertFalse(plain_even(odd))
                changed = table[:at] + [odd] + table[at + 1:]
                # The row still disagrees with its own alone, so that it isn't even is the one fault.
                for one in range(2 * coins):
                    for other in range(one):
                        self.assertEqual(plain_agree(changed[other], changed[one]), one - other != coins)
                self.refused(changed)
        self.refused([(1, 1, 1), (1, 0, 1)])
        self.refused([(1, 1, 0), (1, 1, 1)])

    def test_rows_that_agree_where_they_ought_not_to(self):
        for table in tables(3):
            for at in range(len(table)):
                self.refused(table[:at] + [(1, 0, 0)] + table[at + 1:])
                self.refused(table[:at] + [(-1, 0, 0)] + table[at + 1:])
            coins = len(table) // 2
            for coin in range(coins):
                self.refused(table[:coin] + [table[coin + coins]] + table[coin + 1:])
                self.refused(table[:coins + coin] + [table[coin]] + table[coins + coin + 1:])
        self.refused([(1, 1, 0), (1, 1, 0)])
        self.refused([(1, 1, 0), (-1, 1, 0)])

    def test_rows_that_disagree_where_they_ought_not_to(self):
        faults = 0
        for table in tables(2):
            many = len(table)
            coins = many // 2
            for at in range(many):
                for other in range(many):
                    if other % coins != at % coins:
                        changed = table[:at] + [plain_product(table[at], table[other])] + table[at + 1:]
                        wrong = [(one, two) for two in range(many) for one in range(two)
                                 if plain_agree(changed[one], changed[two]) == (two - one == coins)]
                        self.assertEqual(wrong, [tuple(sorted((at, (other + coins) % many)))])
                        self.assertTrue(plain_even(changed[at]))
                        self.refused(changed)
                        faults += 1
        self.assertGreater(faults, 100)

    def test_rows_in_another_order(self):
        for table in tables(2):
            coins = len(table) // 2
            for one in range(2 * coins):
                for other in range(one):
                    changed = list(table)
                    changed[one], changed[other] = changed[other], changed[one]
                    if one - other != coins:
                        self.refused(changed)
                    else:
                        self.assertEqual(images(coins, gates_of(changed)), changed)
            if coins > 1:
                self.refused([row for pair in zip(table[:coins], table[coins:]) for row in pair])

    def test_all_of_one_coin(self):
        rows = [(sign, xs, zs) for sign in (1, -1) for xs in (0, 1) for zs in (0, 1)]
        told = 0
        for one in rows:
            for other in rows:
                if is_table([one, other]):
                    self.assertEqual(images(1, gates_of([one, other])), [one, other])
                    told += 1
                else:
                    self.refused([one, other])
        self.assertEqual(told, 8)


class AskersOwn(unittest.TestCase):
    def test_what_is_handed_in_stays(self):
        for table in tables(3):
            kept = list(table)
            gates_of(table)
            self.assertEqual(table, kept)
        table = [(1, 1, 0), (1, 1, 1)]
        with self.assertRaises(NoTable):
            gates_of(table)
        self.assertEqual(table, [(1, 1, 0), (1, 1, 1)])

    def test_a_changed_told_list_changes_nothing_else(self):
        for table in tables(3) + [images(coins, []) for coins in COIN_COUNTS]:
            kept = list(table)
            told, beside = gates_of(table), gates_of(table)
            wanted = list(beside)
            told.append(("mix", 0))
            told[0] = 77
            self.assertEqual((beside, gates_of(table), table), (wanted, wanted, kept))

    def test_a_change_of_what_was_handed_in_changes_nothing_told(self):
        for table in tables(3):
            kept = list(table)
            gates = gates_of(table)
            table[0] = (1, 0, 0)
            table.append((1, 0, 0))
            self.assertEqual(images(len(kept) // 2, gates), kept)


if __name__ == "__main__":
    unittest.main()
