import unittest

from tests.helpers import (COIN_COUNTS, NOT_FREE, deeds, full_sets, is_least_form, list_kept_by,
                           multiplied_with_one_another, no_rows, plain_products, rank, table_of)
from turncoins.errors import NoRows, NotFree
from turncoins.shorts import checked, first_rows, rows_looked, rows_turned
from turncoins.ties import ties


def rows_to_tie(seeds):
    """Rows of one to six coins: drawn, and made of the first rows by gates and looks."""
    rows = full_sets(seeds)
    for coins in COIN_COUNTS:
        for seed in range(seeds):
            coming = first_rows(coins)
            for kind, deed in deeds(coins, 4 + 6 * seed, seed):
                coming = rows_turned(coming, deed) if kind == "gate" else rows_looked(coming, *deed)[2]
            rows.append(coming)
    return rows


class Ties(unittest.TestCase):
    def test_ordinary_rows(self):
        bell = [(1, 3, 0), (1, 0, 3)]
        three = [(1, 7, 0), (1, 0, 3), (1, 0, 6)]
        ring = [(1, 1, 6), (1, 2, 5), (1, 4, 3)]
        two_bells = [(1, 5, 0), (-1, 0, 5), (1, 10, 0), (1, 0, 10)]
        for rows, part, wanted in (
                ([(1, 0, 1)], 0, 0), ([(1, 0, 1)], 1, 0), ([(-1, 1, 0)], 1, 0),
                ([(1, 0, 1), (1, 2, 0)], 1, 0), ([(1, 0, 1), (1, 2, 0)], 2, 0),
                (bell, 0, 0), (bell, 1, 1), (bell, 2, 1), (bell, 3, 0),
                ([(1, 1, 2), (1, 2, 1)], 1, 1),
                (three, 1, 1), (three, 3, 1), (three, 6, 1), (three, 7, 0),
                (ring, 2, 1), (ring, 5, 1),
                (two_bells, 1, 1), (two_bells, 3, 2), (two_bells, 5, 0), (two_bells, 9, 2), (two_bells, 7, 1)):
            with self.subTest(rows, part=part):
                self.assertEqual(ties(rows, part), wanted)

    def test_every_part_against_the_rank_of_the_table(self):
        seen = {}
        for rows in rows_to_tie(4):
            numbers = list_kept_by(rows)
            for part in range(2 ** len(rows)):
                told = ties(rows, part)
                self.assertEqual(2 ** told, rank(table_of(numbers, part)), (rows, part))
                self.assertIs(told.__class__, int)
                seen[told] = seen.get(told, 0) + 1
        self.assertEqual(set(seen), {0, 1, 2, 3})

    def test_every_part_against_the_rows_made(self):
        for rows in full_sets(3):
            products = list(plain_products(rows))
            for part in range(2 ** len(rows)):
                within = [row for row in products if (row[1] | row[2]) & ~part == 0]
                free = len(within).bit_length() - 1
                self.assertEqual(2 ** free, len(within))
                self.assertEqual(ties(rows, part), bin(part).count("1") - free)

    def test_none_and_all(self):
        for rows in rows_to_tie(4):
            self.assertEqual((ties(rows, 0), ties(rows, 2 ** len(rows) - 1)), (0, 0))

    def test_the_rest_has_the_same(self):
        for rows in rows_to_tie(3):
            every = 2 ** len(rows) - 1
            for part in range(2 ** len(rows)):
                self.assertEqual(ties(rows, part), ties(rows, every ^ part))

    def test_no_ties_behind_looks_at_each_coin(self):
        for rows in full_sets(2):
            coins = len(rows)
            for coin in range(coins):
                rows = rows_looked(rows, (1, 0, 2 ** coin), coin % 2)[2]
            self.assertEqual({ties(rows, part) for part in range(2 ** coins)}, {0})

    def test_rows_otherwise_than_in_least_form(self):
        others = 0
        for rows in rows_to_tie(2):
            for seed in range(2):
                multiplied = multiplied_with_one_another(rows, seed)
                others += not is_least_form(multiplied, len(rows))
                for part in range(2 ** len(rows)):
                    self.assertEqual(ties(multiplied, part), ties(checked(rows), part))
        self.assertGreater(others, 20)

    def test_signs_do_not_matter(self):
        for rows in full_sets(2):
            others = [(-sign, xs, zs) for sign, xs, zs in rows]
            for part in range(2 ** len(rows)):
                self.assertEqual(ties(others, part), ties(rows, part))


class Refused(unittest.TestCase):
    def test_no_rows(self):
        for rows in no_rows():
            for part in (0, 1):
                with self.subTest(rows), self.assertRaises(NoRows):
                    ties(rows, part)

    def test_rows_that_do_not_stand_free(self):
        for rows, which in NOT_FREE:
            for part in (0, 1, 2 ** len(rows) - 1):
                with self.subTest(rows), self.assertRaises(NotFree) as taken:
                    ties(rows, part)
                self.assertEqual(taken.exception.which, which)


class AskersOwn(unittest.TestCase):
    def test_what_is_handed_in_stays(self):
        for rows in full_sets(2):
            kept = list(rows)
            for part in range(2 ** len(rows)):
                ties(rows, part)
            self.assertEqual(rows, kept)

    def test_a_change_of_what_was_handed_in_changes_what_is_told_of_it_alone(self):
        rows = [(1, 3, 0), (1, 0, 3)]
        self.assertEqual(ties(rows, 1), 1)
        rows[:] = [(1, 0, 1), (1, 0, 2)]
        self.assertEqual(ties(rows, 1), 0)
        self.assertEqual(ties([(1, 3, 0), (1, 0, 3)], 1), 1)


if __name__ == "__main__":
    unittest.main()
