import unittest
from fractions import Fraction

from tests.helpers import (COIN_COUNTS, GREAT, WRONG_LENGTHS, Numbers, any_row, lists_to_try, minus, plain_even,
                           plain_laid, plain_least, rows_to_try, unit_lists)
from turncoins.errors import NoList, NoLook
from turncoins.lists import first_list
from turncoins.looks import chance, looked


def even_rows(coins, many=40, seed=0):
    return [row for row in rows_to_try(coins, many, seed) if plain_even(row)]


def plain_chance(numbers, row, told):
    """The sums of point 10."""
    sent = plain_laid(numbers, row)
    whole = sum(a * a for a in numbers)
    common = sum(a * b for a, b in zip(numbers, sent))
    return Fraction(whole + common if told == 0 else whole - common, 2 * whole)


def plain_looked(numbers, row, wish):
    told = wish if plain_chance(numbers, row, wish) > 0 else 1 - wish
    sent = plain_laid(numbers, row)
    behind = plain_least([a + b if told == 0 else a - b for a, b in zip(numbers, sent)])
    likely = plain_chance(numbers, row, told)
    return (told, (likely.numerator, likely.denominator), behind)


def no_looks(coins):
    """Rows that may not be looked at, of so many coins: each with one fault, and some with several."""
    beyond = 2 ** coins
    wrong = [(1, 1, 1), (-1, 1, 1), (1, beyond // 2, beyond // 2), (-1, beyond - 1, 1)]
    wrong += [(sign, 0, 0) for sign in (0, 2, -2, 3, -GREAT, GREAT)]
    wrong += [(sign, 1, 0) for sign in (0, 2, -3)] + [(0, 0, beyond - 1)]
    for bits in (beyond, beyond + 1, 2 * beyond, 10 ** 40, -1, -2, -GREAT):
        wrong += [(1, bits, 0), (-1, bits, 0), (1, 0, bits), (-1, 0, bits)]
    wrong += [(1, beyond, beyond), (1, -1, -1), (1, beyond + 1, beyond + 1), (1, -1, beyond)]
    wrong += [(0, -1, beyond), (5, 1, 1)]
    return wrong


class Chance(unittest.TestCase):
    def test_ordinary_looks(self):
        for numbers, row, wanted in (
                ([1, 0], (1, 0, 1), (1, 1)),
                ([0, 1], (1, 0, 1), (0, 1)),
                ([1, 1], (1, 0, 1), (1, 2)),
                ([1, 0], (1, 1, 0), (1, 2)),
                ([1, 1], (1, 1, 0), (1, 1)),
                ([1, -1], (1, 1, 0), (0, 1)),
                ([1, -1], (-1, 1, 0), (1, 1)),
                ([1, 2], (1, 0, 1), (1, 5)),
                ([1, 2], (-1, 0, 1), (4, 5)),
                ([1, 2], (1, 1, 0), (9, 10)),
                ([1, 2], (1, 0, 0), (1, 1)),
                ([1, 2], (-1, 0, 0), (0, 1)),
                ([3, 5], (1, 0, 1), (9, 34)),
                ([1, 0, 0, 1], (1, 3, 3), (1, 1)),
                ([1, 0, 0, 1], (1, 0, 1), (1, 2)),
                ([1, 2, 3, 4], (1, 0, 2), (1, 6)),
                ([1, 1, 1, 0], (1, 0, 1), (2, 3))):
            with self.subTest(numbers, row=row):
                self.assertEqual(chance(numbers, row), wanted)

    def test_against_the_sums(self):
        for coins in COIN_COUNTS:
            for row in even_rows(coins):
                for numbers in lists_to_try(coins):
                    wanted = plain_chance(numbers, row, 0)
                    self.assertEqual(chance(numbers, row), (wanted.numerator, wanted.denominator), (numbers, row))

    def test_great_numbers(self):
        self.assertEqual(chance([GREAT, GREAT], (1, 0, 1)), (1, 2))
        self.assertEqual(chance([GREAT, 0], (1, 0, 1)), (1, 1))
        self.assertEqual(chance([GREAT, 1], (1, 0, 1)), (GREAT ** 2, GREAT ** 2 + 1))
        self.assertEqual(chance([1, -GREAT], (1, 0, 1)), (1, GREAT ** 2 + 1))
        self.assertEqual(chance([GREAT, GREAT - 1], (1, 1, 0)),
                         ((2 * GREAT - 1) ** 2, 2 * (GREAT ** 2 + (GREAT - 1) ** 2)))

    def test_told_in_lowest_terms_with_the_bottom_from_1_on(self):
        for coins in COIN_COUNTS:
            for row in even_rows(coins):
                for numbers in lists_to_try(coins):
                    for told in (chance(numbers, row), looked(numbers, row)[1], looked(numbers, row, 1)[1]):
                        self.assertEqual([part.__class__ for part in (told, told[0], told[1])], [tuple, int, int])
                        self.assertEqual(told, (Fraction(*told).numerator, Fraction(*told).denominator))
                        self.assertTrue(0 <= told[0] <= told[1] and told[1] >= 1)

    def test_both_chances_make_the_whole(self):
        for coins in COIN_COUNTS:
            for row in even_rows(coins):
                for numbers in lists_to_try(coins):
                    both = Fraction(*chance(numbers, row)) + Fraction(*chance(numbers, minus(row)))
                    self.assertEqual(both, 1)

    def test_multiples_have_one_chance(self):
        for coins in COIN_COUNTS:
            for row in even_rows(coins, 20):
                for numbers in lists_to_try(coins):
                    for times in (-1, 3, -GREAT):
                        self.assertEqual(chance([times * number for number in numbers], row), chance(numbers, row))


class Looked(unittest.TestCase):
    def test_ordinary_looks(self):
        for numbers, row, wish, wanted in (
                ([1, 1], (1, 0, 1), 0, (0, (1, 2), [1, 0])),
                ([1, 1], (1, 0, 1), 1, (1, (1, 2), [0, 1])),
                ([1, 2], (1, 0, 1), 0, (0, (1, 5), [1, 0])),
                ([1, 2], (1, 0, 1), 1, (1, (4, 5), [0, 1])),
                ([1, 2], (1, 1, 0), 0, (0, (9, 10), [1, 1])),
                ([1, 2], (1, 1, 0), 1, (1, (1, 10), [1, -1])),
                ([2, 1], (-1, 1, 0), 0, (0, (1, 10), [1, -1])),
                ([1, 2, 3, 4], (1, 0, 2), 0, (0, (1, 6), [1, 2, 0, 0])),
                ([1, 2, 3, 4], (1, 0, 2), 1, (1, (5, 6), [0, 0, 3, 4])),
                ([1, 0, 0, 0], (1, 3, 0), 0, (0, (1, 2), [1, 0, 0, 1])),
                ([1, 0, 0, 0], (1, 3, 3), 0, (0, (1, 2), [1, 0, 0, 1])),
                ([1, 0, 0, 0], (1, 3, 3), 1, (1, (1, 2), [1, 0, 0, -1]))):
            with self.subTest(numbers, row=row, wish=wish):
                self.assertEqual(looked(numbers, row, wish), wanted)

    def test_told_for_sure_whatever_the_wish(self):
        for numbers, row, told in (
                ([1, 0], (1, 0, 1), 0),
                ([0, 1], (1, 0, 1), 1),
                ([0, 5], (-1, 0, 1), 0),
                ([3, 3], (1, 1, 0), 0),
                ([3, -3], (1, 1, 0), 1),
                ([1, 2], (1, 0, 0), 0),
                ([1, 2], (-1, 0, 0), 1),
                ([2, 3, 5, 7], (1, 0, 0), 0),
                ([-2, 3, 5, 7], (-1, 0, 0), 1),
                ([1, 0, 0, 1], (1, 3, 3), 0),
                ([0, GREAT, -GREAT, 0], (1, 3, 0), 1)):
            for wish in (0, 1):
                with self.subTest(numbers, row=row, wish=wish):
                    self.assertEqual(looked(numbers, row, wish), (told, (1, 1), plain_least(numbers)))

    def test_against_the_sums_with_both_wishes(self):
        for coins in COIN_COUNTS:
            for row in even_rows(coins):
                for numbers in lists_to_try(coins):
                    for wish in (0, 1):
                        self.assertEqual(looked(numbers, row, wish), plain_looked(numbers, row, wish), (numbers, row))

    def test_sparse_lists_told_for_sure_and_not(self):
        sure = {True: 0, False: 0}
        for coins in COIN_COUNTS:
            for numbers in unit_lists(coins)[::3]:
                for row in even_rows(coins, 30, 1):
                    for wish in (0, 1):
                        told = looked(numbers, row, wish)
                        self.assertEqual(told, plain_looked(numbers, row, wish))
                        sure[told[1] == (1, 1)] += 1
        self.assertTrue(min(sure.values()) > 50)

    def test_the_wish_left_out_is_0(self):
        self.assertEqual(looked([1, 1], (1, 0, 1)), (0, (1, 2), [1, 0]))
        self.assertEqual(looked([0, 1], (1, 0, 1)), (1, (1, 1), [0, 1]))
        for coins in COIN_COUNTS:
            for row in even_rows(coins, 20):
                for numbers in lists_to_try(coins):
                    self.assertEqual(looked(numbers, row), looked(numbers, row, 0))
                    self.assertEqual(looked(numbers, row, wish=1), looked(numbers, row, 1))

    def test_the_chance_told_is_that_of_what_is_told(self):
        for coins in COIN_COUNTS:
            for row in even_rows(coins, 20):
                for numbers in lists_to_try(coins):
                    for wish in (0, 1):
                        told, likely, behind = looked(numbers, row, wish)
                        self.assertEqual(likely, chance(numbers, row if told == 0 else minus(row)))

    def test_a_second_look_tells_the_same_for_sure(self):
        for coins in COIN_COUNTS:
            for row in even_rows(coins, 20):
                for numbers in lists_to_try(coins):
                    for wish in (0, 1):
                        told, likely, behind = looked(numbers, row, wish)
                        self.assertEqual(looked(behind, row, 1 - told), (told, (1, 1), behind))

    def test_rows_of_looks_with_great_numbers(self):
        for coins in COIN_COUNTS:
            numbers = Numbers(coins)
            coming = lists_to_try(coins)[-1]
            for times in range(30):
                row, wish = any_row(coins, numbers), numbers.below(2)
                if plain_even(row):
                    wanted = plain_looked(coming, row, wish)
                    self.assertEqual(looked(coming, row, wish), wanted)
                    coming = wanted[2]

    def test_kinds_of_what_is_told(self):
        told = looked([3, 5], (1, 0, 1), 1)
        self.assertEqual((told.__class__, len(told)), (tuple, 3))
        self.assertEqual([part.__class__ for part in told], [int, tuple, list])
        self.assertEqual([number.__class__ for number in told[2]], [int, int])


class NoLooks(unittest.TestCase):
    def refused(self, kind, numbers, row):
        with self.assertRaises(kind):
            chance(numbers, row)
        for wish in (0, 1):
            with self.assertRaises(kind):
                looked(numbers, row, wish)
        with self.assertRaises(kind):
            looked(numbers, row)

    def test_each_fault(self):
        for coins in COIN_COUNTS:
            for row in no_looks(coins):
                for numbers in (first_list(coins), [3] * 2 ** coins):
                    with self.subTest(coins, row=row):
                        self.refused(NoLook, numbers, row)

    def test_every_row_that_is_not_even(self):
        for coins in COIN_COUNTS:
            for row in rows_to_try(coins, 100):
                if plain_even(row):
                    chance(first_list(coins), row)
                else:
                    self.refused(NoLook, first_list(coins), row)

    def test_bits_of_coins_that_the_list_has_not(self):
        for coins in COIN_COUNTS:
            for row in even_rows(6, 60, 2):
                if max(row[1:]) < 2 ** coins:
                    looked(first_list(coins), row)
                else:
                    self.refused(NoLook, first_list(coins), row)

    def test_no_list_comes_ahead(self):
        for length in WRONG_LENGTHS:
            for row in ((1, 0, 0), (1, 1, 1), (0, 0, 0), (1, -1, 0), (1, 0, 10 ** 40)):
                self.refused(NoList, [1] * length, row)
                self.refused(NoList, [0] * length, row)
        for coins in COIN_COUNTS:
            self.refused(NoList, [0] * 2 ** coins, (1, 0, 1))
            for row in no_looks(coins):
                self.refused(NoList, [0] * 2 ** coins, row)


class AskersOwn(unittest.TestCase):
    def test_what_is_handed_in_stays(self):
        for coins in COIN_COUNTS:
            for numbers in lists_to_try(coins):
                kept = list(numbers)
                for row in even_rows(coins, 12):
                    chance(numbers, row)
                    looked(numbers, row, 1)
                with self.assertRaises(NoLook):
                    looked(numbers, (1, 1, 1))
                self.assertEqual(numbers, kept)

    def test_a_changed_told_list_changes_nothing_else(self):
        for numbers, row in (([1, 0], (1, 0, 1)), ([1, 1], (1, 0, 1)), ([2, 4, 6, 8], (1, 0, 0))):
            kept = list(numbers)
            told = looked(numbers, row)
            wanted = (told[0], told[1], list(told[2]))
            again = looked(numbers, row)
            told[2][0] = 77
            told[2].append(78)
            self.assertEqual(numbers, kept)
            self.assertEqual(again, wanted)
            self.assertEqual(told[:2], wanted[:2])
            self.assertEqual(looked(numbers, row), wanted)

    def test_a_change_of_what_was_handed_in_changes_nothing_told(self):
        numbers = [1, 0]
        told = looked(numbers, (1, 0, 1))
        numbers[0] = 5
        numbers[1] = 6
        self.assertEqual(told, (0, (1, 1), [1, 0]))


if __name__ == "__main__":
    unittest.main()
