import unittest
from itertools import combinations, permutations

from tests.helpers import (COIN_COUNTS, Numbers, all_rows, any_row, free_rows, is_least_form, minus,
                           multiplied_with_one_another, no_letters, plain_agree, plain_even, plain_least_rows,
                           plain_product, plain_products, product_in_order, rows_to_try, stands_free, subsets)
from turncoins.errors import NotFree
from turncoins.spans import least_rows, made_of


def free_rows_to_try():
    """Pairs of coins and free rows: none, some and as many as coins, of one to six coins."""
    return [(coins, free_rows(coins, many, seed)) for coins in COIN_COUNTS for many in range(coins + 1)
            for seed in range(3)]


def pairs_that_disagree(rows):
    """Those numbers of two rows that disagree, as point 14 orders them."""
    pairs = [[k, j] for k, j in combinations(range(len(rows)), 2) if not plain_agree(rows[k], rows[j])]
    return sorted(pairs, key=lambda pair: (pair[1], pair[0]))


class MadeOf(unittest.TestCase):
    def test_ordinary_rows(self):
        rows = [(1, 0, 1), (-1, 0, 2), (1, 4, 0)]
        for row, wanted in (
                ((1, 0, 0), ([], 1)),
                ((-1, 0, 0), ([], -1)),
                ((1, 0, 1), ([0], 1)),
                ((-1, 0, 1), ([0], -1)),
                ((1, 0, 2), ([1], -1)),
                ((-1, 0, 2), ([1], 1)),
                ((1, 0, 3), ([0, 1], -1)),
                ((1, 4, 1), ([0, 2], 1)),
                ((1, 4, 3), ([0, 1, 2], -1)),
                ((-1, 4, 3), ([0, 1, 2], 1)),
                ((1, 1, 0), None),
                ((1, 0, 4), None),
                ((1, 4, 4), None),
                ((1, 0, 7), None)):
            with self.subTest(row):
                self.assertEqual(made_of(rows, row), wanted)

    def test_signs_that_come_of_multiplying(self):
        # The product of these two is (-1, 3, 3), though both have the sign 1.
        self.assertEqual(made_of([(1, 1, 2), (1, 2, 1)], (-1, 3, 3)), ([0, 1], 1))
        self.assertEqual(made_of([(1, 1, 2), (1, 2, 1)], (1, 3, 3)), ([0, 1], -1))
        self.assertEqual(made_of([(1, 3, 0), (1, 0, 3)], (1, 3, 3)), ([0, 1], 1))
        self.assertEqual(made_of([(1, 3, 0), (1, 0, 3)], (-1, 3, 3)), ([0, 1], -1))

    def test_of_no_rows(self):
        self.assertEqual(made_of([], (1, 0, 0)), ([], 1))
        self.assertEqual(made_of([], (-1, 0, 0)), ([], -1))
        for coins in COIN_COUNTS:
            for row in rows_to_try(coins):
                if not no_letters(row):
                    self.assertIsNone(made_of([], row))

    def test_some_none_and_all_of_them_with_both_signs(self):
        for coins, rows in free_rows_to_try():
            for which in subsets(len(rows)):
                row = product_in_order([rows[at] for at in which])
                self.assertEqual(made_of(rows, row), (which, 1), (rows, row))
                self.assertEqual(made_of(rows, minus(row)), (which, -1), (rows, row))

    def test_rows_that_are_not_made_of_them(self):
        seen = 0
        for coins, rows in free_rows_to_try():
            products = plain_products(rows)
            for row in rows_to_try(coins, 60, 1):
                if row not in products and minus(row) not in products:
                    self.assertIsNone(made_of(rows, row), (rows, row))
                    seen += 1
        self.assertGreater(seen, 500)

    def test_rows_that_differ_from_made_ones_in_one_bit(self):
        for coins, rows in free_rows_to_try():
            products = plain_products(rows)
            for row in list(products)[:8]:
                for coin in range(coins):
                    for other in ((row[0], row[1] ^ 2 ** coin, row[2]), (row[0], row[1], row[2] ^ 2 ** coin)):
                        if other not in products and minus(other) not in products:
                            self.assertIsNone(made_of(rows, other))

    def test_all_rows_of_two_coins(self):
        for rows in permutations(all_rows(2), 2):
            if stands_free(rows):
                products = plain_products(rows)
                for row in all_rows(2):
                    wanted = None
                    if row in products:
                        wanted = (products[row], 1)
                    elif minus(row) in products:
                        wanted = (products[minus(row)], -1)
                    self.assertEqual(made_of(list(rows), row), wanted)

    def test_kinds_of_what_is_told(self):
        told = made_of([(1, 0, 1), (1, 0, 2)], (-1, 0, 3))
        self.assertEqual([part.__class__ for part in (told, told[0], told[1])], [tuple, list, int])
        self.assertEqual([number.__class__ for number in told[0]], [int, int])


class LeastRows(unittest.TestCase):
    def test_ordinary_rows(self):
        for rows, wanted in (
                ([], []),
                ([(1, 1, 0)], [(1, 1, 0)]),
                ([(-1, 0, 1)], [(-1, 0, 1)]),
                ([(1, 0, 2), (1, 0, 1)], [(1, 0, 1), (1, 0, 2)]),
                ([(1, 0, 1), (-1, 0, 3)], [(1, 0, 1), (-1, 0, 2)]),
                ([(1, 0, 1), (1, 2, 0)], [(1, 2, 0), (1, 0, 1)]),
                ([(1, 3, 0), (1, 0, 3)], [(1, 3, 0), (1, 0, 3)]),
                ([(1, 3, 3), (1, 0, 3)], [(1, 3, 0), (1, 0, 3)]),
                ([(1, 3, 3), (1, 3, 0)], [(1, 3, 0), (1, 0, 3)]),
                ([(-1, 3, 3), (1, 3, 0)], [(1, 3, 0), (-1, 0, 3)]),
                ([(1, 3, 0), (1, 2, 0)], [(1, 1, 0), (1, 2, 0)]),
                ([(1, 1, 2), (-1, 3, 3)], [(1, 1, 2), (1, 2, 1)]),
                ([(1, 0, 7), (1, 0, 6), (1, 0, 4)], [(1, 0, 1), (1, 0, 2), (1, 0, 4)])):
            with self.subTest(rows):
                self.assertEqual(least_rows(rows), wanted)

    def test_columns_rise_and_stand_alone_and_products_are_the_same(self):
        for coins, rows in free_rows_to_try():
            told = least_rows(rows)
            self.assertEqual(len(told), len(rows))
            self.assertTrue(is_least_form(told, coins), (rows, told))
            self.assertEqual(set(plain_products(told)), set(plain_products(rows)))

    def test_against_a_second_telling(self):
        for coins, rows in free_rows_to_try():
            self.assertEqual(least_rows(rows), plain_least_rows(rows, coins))

    def test_all_free_pairs_of_two_coins(self):
        for rows in permutations(all_rows(2), 2):
            if stands_free(rows):
                self.assertEqual(least_rows(list(rows)), plain_least_rows(rows, 2), rows)

    def test_multiplied_with_one_another_and_in_another_order(self):
        for coins, rows in free_rows_to_try():
            if rows:
                for seed in range(3):
                    others = multiplied_with_one_another(rows, seed)
                    self.assertEqual(least_rows(others), least_rows(rows))
                self.assertEqual(least_rows(rows[::-1]), least_rows(rows))

    def test_other_signs_have_another_least_form(self):
        for coins, rows in free_rows_to_try():
            for at in range(len(rows)):
                others = rows[:at] + [minus(rows[at])] + rows[at + 1:]
                told = least_rows(others)
                self.assertNotEqual(told, least_rows(rows))
                self.assertEqual([row[1:] for row in told], [row[1:] for row in least_rows(rows)])

    def test_least_form_is_its_own_least_form(self):
        for coins, rows in free_rows_to_try():
            self.assertEqual(least_rows(least_rows(rows)), least_rows(rows))

    def test_alike_just_where_the_products_are(self):
        for coins in (1, 2, 3):
            for many in range(1, coins + 1):
                sets = [free_rows(coins, many, seed) for seed in range(30)]
                for one, other in combinations(sets, 2):
                    self.assertEqual(least_rows(one) == least_rows(other),
                                     set(plain_products(one)) == set(plain_products(other)))

    def test_kinds_of_what_is_told(self):
        told = least_rows([(1, 3, 0), (1, 0, 3)])
        self.assertEqual([told.__class__] + [row.__class__ for row in told], [list, tuple, tuple])
        self.assertEqual([part.__class__ for row in told for part in row], [int] * 6)


class NotFreeRows(unittest.TestCase):
    def which(self, rows):
        with self.assertRaises(NotFree) as taken:
            least_rows(rows)
        which = taken.exception.which
        self.assertIs(which.__class__, list)
        self.assertTrue(which and which == sorted(set(which)) and 0 <= which[0] and which[-1] < len(rows))
        return which

    def test_rows_that_are_not_even(self):
        for rows, wanted in (
                ([(1, 1, 1)], [0]),
                ([(-1, 1, 1)], [0]),
                ([(1, 0, 1), (1, 2, 2)], [1]),
                ([(1, 7, 7), (1, 1, 1)], [0]),
                ([(1, 0, 1), (1, 0, 2), (-1, 4, 4), (1, 8, 8)], [2])):
            with self.subTest(rows):
                self.assertEqual(self.which(rows), wanted)

    def test_rows_that_disagree(self):
        for rows, wanted in (
                ([(1, 1, 0), (1, 0, 1)], [0, 1]),
                ([(1, 2, 0), (1, 1, 0), (1, 0, 1)], [1, 2]),
                ([(1, 1, 0), (1, 2, 0), (1, 0, 3)], [0, 2]),
                ([(1, 4, 0), (1, 1, 0), (1, 0, 1), (1, 0, 4)], [1, 2]),
                ([(1, 4, 0), (1, 1, 0), (1, 0, 2), (1, 0, 5)], [0, 3])):
            with self.subTest(rows):
                self.assertEqual(self.which(rows), wanted)

    def test_rows_that_come_to_a_row_without_letters(self):
        for rows, wanted in (
                ([(1, 0, 0)], [0]),
                ([(-1, 0, 0)], [0]),
                ([(1, 1, 0), (1, 0, 0)], [1]),
                ([(1, 1, 0), (-1, 0, 0), (1, 2, 0)], [1]),
                ([(1, 1, 0), (1, 1, 0)], [0, 1]),
                ([(1, 1, 0), (-1, 1, 0)], [0, 1]),
                ([(1, 2, 0), (1, 1, 0), (-1, 3, 0)], [0, 1, 2]),
                ([(1, 2, 0), (1, 1, 0), (1, 4, 0), (1, 5, 0)], [1, 2, 3]),
                ([(1, 3, 0), (1, 0, 3), (1, 3, 3)], [0, 1, 2]),
                ([(1, 3, 0), (1, 0, 3), (-1, 3, 3)], [0, 1, 2])):
            with self.subTest(rows):
                self.assertEqual(self.which(rows), wanted)

    def test_the_three_kinds_in_their_order(self):
        uneven, x, z, bare = (1, 4, 4), (1, 1, 0), (1, 0, 1), (1, 0, 0)
        for rows, wanted in (
                ([bare, x, z, uneven], [3]),
                ([x, z, bare, uneven], [3]),
                ([x, z, x, (1, 2, 2), uneven], [3]),
                ([bare, x, z], [1, 2]),
                ([x, bare, z], [0, 2]),
                ([x, x, z], [0, 2]),
                ([x, minus(x), (1, 2, 0), z], [0, 3]),
                ([uneven, uneven], [0])):
            with self.subTest(rows):
                self.assertEqual(self.which(rows), wanted)

    def test_drawn_rows_of_every_kind(self):
        seen = {"uneven": 0, "disagree": 0, "bare": 0, "free": 0}
        for coins in COIN_COUNTS:
            numbers = Numbers(coins)
            for times in range(400):
                rows = [any_row(coins, numbers) for each in range(1 + numbers.below(min(coins, 4) + 1))]
                if times % 2:
                    rows = [row for row in rows if plain_even(row)]
                self.check_drawn(rows, seen)
        self.assertGreater(min(seen.values()), 100, seen)

    def check_drawn(self, rows, seen):
        uneven = [at for at, row in enumerate(rows) if not plain_even(row)]
        disagree = pairs_that_disagree(rows)
        if uneven:
            seen["uneven"] += 1
            self.assertEqual(self.which(rows), uneven[:1])
        elif disagree:
            seen["disagree"] += 1
            self.assertEqual(self.which(rows), disagree[0])
        elif not stands_free(rows):
            seen["bare"] += 1
            self.assertTrue(no_letters(product_in_order([rows[at] for at in self.which(rows)])))
        else:
            seen["free"] += 1
            least_rows(rows)

    def test_products_of_free_rows_put_among_them(self):
        for coins in COIN_COUNTS:
            for many in range(1, coins + 1):
                rows = free_rows(coins, many, 7)
                for which in subsets(many):
                    made = product_in_order([rows[at] for at in which])
                    for row in (made, minus(made)):
                        # Of free rows there is one way alone, so that here just one set can be told.
                        self.assertEqual(self.which(rows + [row]), which + [many])
                        self.assertEqual(self.which([row] + rows), [0] + [at + 1 for at in which])

    def test_more_rows_than_can_stand_free(self):
        for coins in COIN_COUNTS:
            rows = [(1, 0, zs) for zs in range(1, 2 ** coins)]
            if coins == 1:
                rows = rows + rows
            which = self.which(rows)
            self.assertTrue(no_letters(product_in_order([rows[at] for at in which])))

    def test_a_refusal_of_each_its_own(self):
        rows = [(1, 1, 0), (1, 1, 0)]
        one, other = [], []
        for told in (one, other):
            with self.assertRaises(NotFree) as taken:
                least_rows(rows)
            told.append(taken.exception)
        one[0].which.append(9)
        self.assertEqual(other[0].which, [0, 1])
        self.assertEqual(self.which(rows), [0, 1])


class AskersOwn(unittest.TestCase):
    def test_what_is_handed_in_stays(self):
        for coins, rows in free_rows_to_try():
            kept = list(rows)
            least_rows(rows)
            made_of(rows, (1, 1, 0))
            made_of(rows, product_in_order(rows))
            self.assertEqual(rows, kept)
        for rows in ([(1, 1, 1)], [(1, 1, 0), (1, 0, 1)], [(1, 1, 0), (1, 1, 0)]):
            kept = list(rows)
            with self.assertRaises(NotFree):
                least_rows(rows)
            self.assertEqual(rows, kept)

    def test_a_changed_told_list_changes_nothing_told_later(self):
        for coins, rows in free_rows_to_try():
            kept = list(rows)
            told = least_rows(rows)
            wanted = list(told)
            told.append((1, 0, 0))
            told[0] = (1, 0, 0)
            self.assertEqual(rows, kept)
            self.assertEqual(least_rows(rows), wanted)
            row = product_in_order(rows)
            which, sign = made_of(rows, row)
            which.append(9)
            self.assertEqual(made_of(rows, row), (list(range(len(rows))), 1))

    def test_told_rows_are_new(self):
        for rows in ([(1, 1, 0)], [(1, 0, 1), (-1, 0, 2)], [(1, 0, 2), (1, 0, 1)]):
            told = least_rows(rows)
            self.assertEqual(sorted(told), sorted(rows))
            for row in told:
                self.assertFalse([other for other in rows if other is row])

    def test_a_change_of_what_was_handed_in_changes_nothing_told(self):
        rows = [(1, 0, 1), (1, 0, 2)]
        told, made = least_rows(rows), made_of(rows, (1, 0, 3))
        rows[0] = (1, 1, 0)
        rows.append((1, 1, 1))
        self.assertEqual((told, made), ([(1, 0, 1), (1, 0, 2)], ([0, 1], 1)))


class Helpers(unittest.TestCase):
    """The second telling is asked by itself, too, so that nothing is proved by two equal faults."""

    def test_free_rows_stand_free(self):
        for coins, rows in free_rows_to_try():
            self.assertTrue(stands_free(rows))

    def test_products_of_agreeing_even_rows(self):
        self.assertEqual(plain_product((1, 1, 2), (1, 2, 1)), (-1, 3, 3))
        self.assertEqual(plain_product((1, 0, 1), (1, 1, 0)), (-1, 1, 1))
        self.assertEqual(plain_product((1, 1, 0), (1, 0, 1)), (1, 1, 1))


if __name__ == "__main__":
    unittest.main()
