import unittest

from tests.helpers import (COIN_COUNTS, GREAT, Numbers, all_gates, all_rows, any_row, free_rows, keeps, list_kept_by,
                           lists_to_try, minus, no_gates, plain_agree, plain_even, plain_laid, plain_product,
                           raw_turned, row_of_gates, rows_to_try, unit_lists)
from turncoins.errors import NoGate
from turncoins.gates import turned
from turncoins.lists import least
from turncoins.rows import agree, is_even, laid, letters, moved, product


def pairs_to_try(coins):
    """All pairs of rows of one or two coins, else some of them."""
    if coins <= 2:
        return [(one, other) for one in all_rows(coins) for other in all_rows(coins)]
    return [(one, other) for one in rows_to_try(coins, 16) for other in rows_to_try(coins, 16, 1)]


class Laid(unittest.TestCase):
    def test_ordinary_rows(self):
        for numbers, row, wanted in (
                ([3, 5], (1, 0, 0), [3, 5]),
                ([3, 5], (-1, 0, 0), [-3, -5]),
                ([3, 5], (1, 1, 0), [5, 3]),
                ([3, 5], (1, 0, 1), [3, -5]),
                ([3, 5], (1, 1, 1), [-5, 3]),
                ([3, 5], (-1, 1, 1), [5, -3]),
                ([2, 3, 5, 7], (1, 1, 0), [3, 2, 7, 5]),
                ([2, 3, 5, 7], (1, 2, 0), [5, 7, 2, 3]),
                ([2, 3, 5, 7], (1, 3, 0), [7, 5, 3, 2]),
                ([2, 3, 5, 7], (1, 0, 2), [2, 3, -5, -7]),
                ([2, 3, 5, 7], (1, 0, 3), [2, -3, -5, 7]),
                ([2, 3, 5, 7], (1, 1, 2), [3, 2, -7, -5]),
                ([2, 3, 5, 7], (-1, 3, 1), [7, -5, 3, -2])):
            with self.subTest(numbers, row=row):
                self.assertEqual(laid(numbers, row), wanted)

    def test_place_by_place(self):
        for coins in COIN_COUNTS:
            for row in rows_to_try(coins):
                for numbers in lists_to_try(coins):
                    self.assertEqual(laid(numbers, row), plain_laid(numbers, row), (numbers, row))

    def test_each_single_number_is_sent_as_the_point_says(self):
        for coins in COIN_COUNTS:
            for sign, xs, zs in rows_to_try(coins):
                for place in range(2 ** coins):
                    wanted = [0] * 2 ** coins
                    wanted[place ^ xs] = 7 * sign
                    for coin in range(coins):
                        if place & zs & 2 ** coin:
                            wanted[place ^ xs] *= -1
                    self.assertEqual(laid([7 * number for number in unit_lists(coins)[place]], (sign, xs, zs)), wanted)

    def test_all_rows_of_three_coins(self):
        numbers = [2, 3, -5, 7, 11, 0, 13, -17]
        for row in all_rows(3):
            self.assertEqual(laid(numbers, row), plain_laid(numbers, row), row)

    def test_what_comes_is_told_as_it_is(self):
        self.assertEqual(laid([-2, 4], (1, 0, 0)), [-2, 4])
        self.assertEqual(laid([6, 0, 0, -9], (-1, 1, 0)), [0, -6, 9, 0])
        self.assertEqual(laid([0, 0, 0, 12], (1, 3, 1)), [-12, 0, 0, 0])
        self.assertEqual(laid([GREAT, -GREAT], (1, 1, 0)), [-GREAT, GREAT])
        for coins in COIN_COUNTS:
            for row in rows_to_try(coins, 12):
                for numbers in lists_to_try(coins):
                    tenfold = [10 * number for number in numbers]
                    self.assertEqual(laid(tenfold, row), [10 * number for number in laid(numbers, row)])
                    self.assertEqual(laid(numbers, minus(row)), [-number for number in laid(numbers, row)])

    def test_keeping_and_turning(self):
        self.assertEqual(laid([1, 1], (1, 1, 0)), [1, 1])
        self.assertEqual(laid([1, -1], (1, 1, 0)), [-1, 1])
        self.assertEqual(laid([1, 0, 0, 1], (1, 3, 0)), [1, 0, 0, 1])
        self.assertEqual(laid([1, 0, 0, 1], (1, 3, 3)), [1, 0, 0, 1])
        self.assertEqual(laid([1, 0, 0, -1], (1, 3, 3)), [-1, 0, 0, 1])
        self.assertEqual(laid([0, 1, -1, 0], (1, 3, 3)), [0, 1, -1, 0])


class Products(unittest.TestCase):
    def test_ordinary_rows(self):
        for one, other, wanted in (
                ((1, 0, 0), (1, 0, 0), (1, 0, 0)),
                ((-1, 0, 0), (1, 5, 6), (-1, 5, 6)),
                ((-1, 0, 0), (-1, 0, 0), (1, 0, 0)),
                ((1, 1, 0), (1, 0, 1), (1, 1, 1)),
                ((1, 0, 1), (1, 1, 0), (-1, 1, 1)),
                ((1, 1, 1), (1, 1, 1), (-1, 0, 0)),
                ((1, 3, 3), (1, 3, 3), (1, 0, 0)),
                ((1, 3, 0), (1, 0, 3), (1, 3, 3)),
                ((1, 0, 3), (1, 3, 0), (1, 3, 3)),
                ((-1, 1, 2), (1, 2, 1), (1, 3, 3)),
                ((1, 0, 32), (1, 32, 0), (-1, 32, 32))):
            with self.subTest(one, other=other):
                self.assertEqual(product(one, other), wanted)

    def test_does_what_the_other_one_and_then_the_one_do(self):
        for coins in COIN_COUNTS:
            units = unit_lists(coins)
            if coins > 4:
                units = units[:5] + units[-5:] + [units[2 ** coin] for coin in range(coins)]
            for one, other in pairs_to_try(coins):
                both = product(one, other)
                for numbers in units:
                    self.assertEqual(plain_laid(numbers, both), plain_laid(plain_laid(numbers, other), one))
                    self.assertEqual(laid(numbers, both), laid(laid(numbers, other), one))

    def test_lists_of_all_kinds(self):
        for coins in COIN_COUNTS:
            for one, other in pairs_to_try(coins)[::7]:
                for numbers in lists_to_try(coins)[-4:]:
                    self.assertEqual(laid(numbers, product(one, other)), laid(laid(numbers, other), one))

    def test_against_a_second_telling(self):
        for coins in COIN_COUNTS:
            for one, other in pairs_to_try(coins):
                self.assertEqual(product(one, other), plain_product(one, other))

    def test_three_rows_in_either_grouping(self):
        for coins in COIN_COUNTS:
            numbers = Numbers(coins)
            for times in range(50):
                a, b, c = [any_row(coins, numbers) for each in range(3)]
                self.assertEqual(product(product(a, b), c), product(a, product(b, c)))

    def test_agree_against_both_products(self):
        for coins in COIN_COUNTS:
            for one, other in pairs_to_try(coins):
                told = agree(one, other)
                self.assertIs(told, plain_agree(one, other))
                self.assertIs(told, product(one, other) == product(other, one))
                self.assertEqual(product(one, other), product(other, one) if told else minus(product(other, one)))

    def test_ordinary_agreement(self):
        for one, other, wanted in (
                ((1, 1, 0), (1, 0, 1), False),
                ((1, 1, 0), (1, 0, 2), True),
                ((1, 3, 0), (1, 0, 3), True),
                ((1, 3, 0), (-1, 0, 1), False),
                ((1, 1, 1), (1, 1, 0), False),
                ((1, 1, 1), (-1, 1, 1), True),
                ((1, 32, 0), (1, 1, 32), False),
                ((1, 0, 0), (1, 63, 62), True)):
            with self.subTest(one, other=other):
                self.assertIs(agree(one, other), wanted)
                self.assertIs(agree(other, one), wanted)

    def test_even_against_the_row_times_itself(self):
        for coins in COIN_COUNTS:
            for row in rows_to_try(coins, 200):
                told = is_even(row)
                self.assertIs(told, plain_even(row))
                self.assertEqual(product(row, row), (1 if told else -1, 0, 0))

    def test_ordinary_even_rows(self):
        for row, wanted in (((1, 0, 0), True), ((-1, 0, 0), True), ((1, 1, 1), False), ((-1, 1, 1), False),
                            ((1, 1, 2), True), ((1, 3, 3), True), ((-1, 7, 7), False), ((1, 63, 63), True),
                            ((1, 32, 32), False), ((1, 63, 0), True), ((1, 0, 63), True)):
            with self.subTest(row):
                self.assertIs(is_even(row), wanted)

    def test_letters(self):
        for row, wanted in (((1, 0, 0), 0), ((-1, 0, 0), 0), ((1, 1, 0), 1), ((1, 0, 1), 1), ((1, 1, 1), 1),
                            ((-1, 1, 2), 2), ((1, 5, 4), 2), ((1, 63, 63), 6), ((-1, 21, 42), 6), ((1, 32, 0), 1)):
            with self.subTest(row):
                self.assertEqual(letters(row), wanted)

    def test_letters_coin_by_coin(self):
        for coins in COIN_COUNTS:
            for row in rows_to_try(coins):
                wanted = [coin for coin in range(coins) if row[1] & 2 ** coin or row[2] & 2 ** coin]
                self.assertEqual(letters(row), len(wanted))
                self.assertIs(letters(row).__class__, int)


class Moved(unittest.TestCase):
    def test_each_gate_as_its_words_say(self):
        for row, gate, wanted in (
                ((1, 1, 0), ("mix", 0), (1, 0, 1)),
                ((1, 0, 1), ("mix", 0), (1, 1, 0)),
                ((1, 1, 1), ("mix", 0), (-1, 1, 1)),
                ((1, 2, 4), ("mix", 1), (1, 0, 6)),
                ((1, 1, 0), ("flip", 0), (1, 1, 0)),
                ((1, 0, 1), ("flip", 0), (-1, 0, 1)),
                ((-1, 1, 1), ("flip", 0), (1, 1, 1)),
                ((1, 1, 0), ("sign", 0), (-1, 1, 0)),
                ((1, 0, 1), ("sign", 0), (1, 0, 1)),
                ((1, 1, 0), ("follow", 0, 1), (1, 3, 0)),
                ((1, 2, 0), ("follow", 0, 1), (1, 2, 0)),
                ((1, 0, 2), ("follow", 0, 1), (1, 0, 3)),
                ((1, 0, 1), ("follow", 0, 1), (1, 0, 1)),
                ((1, 1, 2), ("follow", 0, 1), (1, 3, 3)),
                ((-1, 3, 3), ("follow", 0, 1), (-1, 1, 2)),
                ((1, 1, 0), ("meet", 0, 1), (1, 1, 2)),
                ((1, 2, 0), ("meet", 0, 1), (1, 2, 1)),
                ((1, 3, 0), ("meet", 0, 1), (-1, 3, 3)),
                ((1, 3, 3), ("meet", 1, 0), (-1, 3, 0)),
                ((1, 0, 3), ("meet", 0, 1), (1, 0, 3)),
                ((1, 1, 2), ("swap", 0, 1), (1, 2, 1)),
                ((-1, 3, 1), ("swap", 0, 1), (-1, 3, 2)),
                ((1, 32, 1), ("swap", 0, 5), (1, 1, 32))):
            with self.subTest(row, gate=gate):
                self.assertEqual(moved(row, gate), wanted)

    def test_laid_on_a_turned_list_it_does_what_turning_does_to_the_list_laid(self):
        for coins in COIN_COUNTS:
            lists = lists_to_try(coins)
            tried = [lists[6], lists[-1], unit_lists(coins)[-1]]
            for gate in all_gates(coins):
                for row in rows_to_try(coins, 16):
                    told = moved(row, gate)
                    for numbers in tried:
                        # Not in least form, so that the sign counts.
                        self.assertEqual(plain_laid(raw_turned(numbers, gate), told),
                                         raw_turned(plain_laid(numbers, row), gate), (row, gate))

    def test_all_rows_of_three_coins(self):
        for gate in all_gates(3):
            for row in all_rows(3):
                told = moved(row, gate)
                for numbers in ([2, 3, -5, 7, 11, 0, 13, -17], [1, 0, 0, 0, 0, 0, 0, 0]):
                    self.assertEqual(plain_laid(raw_turned(numbers, gate), told),
                                     raw_turned(plain_laid(numbers, row), gate), (row, gate))

    def test_with_the_programs_own_lists(self):
        for coins in COIN_COUNTS:
            for gate in all_gates(coins):
                for row in rows_to_try(coins, 10):
                    numbers = lists_to_try(coins)[-3]
                    self.assertEqual(least(laid(turned(numbers, gate), moved(row, gate))),
                                     turned(laid(numbers, row), gate))

    def test_twice_is_as_it_was(self):
        for coins in COIN_COUNTS:
            for gate in all_gates(coins):
                for row in rows_to_try(coins):
                    self.assertEqual(moved(moved(row, gate), gate), row)

    def test_agreement_evenness_and_products_stay(self):
        for coins in COIN_COUNTS:
            for gate in all_gates(coins):
                for one, other in zip(rows_to_try(coins, 20), rows_to_try(coins, 20, 1)[::-1]):
                    self.assertEqual(moved(product(one, other), gate), product(moved(one, gate), moved(other, gate)))
                    self.assertEqual(agree(one, other), agree(moved(one, gate), moved(other, gate)))
                    self.assertEqual(is_even(one), is_even(moved(one, gate)))

    def test_keeping_and_turning_stay_along_rows_of_gates(self):
        for coins in COIN_COUNTS:
            for seed in range(4):
                rows = free_rows(coins, coins, seed)
                numbers = list_kept_by(rows)
                for gate in row_of_gates(coins, 40, seed):
                    rows = [moved(row, gate) for row in rows]
                    numbers = turned(numbers, gate)
                    for row in rows:
                        self.assertTrue(keeps(row, numbers), (row, gate))
                        self.assertEqual(laid(numbers, row), numbers)
                        self.assertEqual(laid(numbers, minus(row)), [-number for number in numbers])

    def test_no_letters_stay_so(self):
        for gate in all_gates(6):
            self.assertEqual((moved((1, 0, 0), gate), moved((-1, 0, 0), gate)), ((1, 0, 0), (-1, 0, 0)))

    def test_all_six_coins_count_for_every_row(self):
        # A row doesn't tell its coins, so a coin is there for it even where its bits don't reach.
        for gate in all_gates(6):
            for row in rows_to_try(1) + rows_to_try(6):
                told = moved(row, gate)
                self.assertEqual((told.__class__, len(told)), (tuple, 3))
                self.assertTrue(0 <= told[1] < 64 and 0 <= told[2] < 64)


class NoGates(unittest.TestCase):
    def test_each_fault_is_refused_with_at_0(self):
        for row in ((1, 0, 0), (-1, 1, 1), (1, 63, 62)):
            for gate in no_gates(6):
                with self.subTest(row, word=gate[:1].__class__, parts=len(gate)):
                    with self.assertRaises(NoGate) as taken:
                        moved(row, gate)
                    self.assertEqual(taken.exception.at, 0)
                    self.assertIs(taken.exception.at.__class__, int)

    def test_coins_from_six_on(self):
        for coin in (6, 7, 12, 63, 64, GREAT):
            for gate in (("mix", coin), ("flip", coin), ("sign", coin), ("follow", coin, 0), ("follow", 5, coin),
                         ("meet", coin, 1), ("meet", 1, coin), ("swap", coin, 2), ("swap", 2, coin)):
                with self.subTest(gate), self.assertRaises(NoGate) as taken:
                    moved((1, 1, 0), gate)
                self.assertEqual(taken.exception.at, 0)


class AskersOwn(unittest.TestCase):
    def test_what_is_handed_in_stays(self):
        for coins in COIN_COUNTS:
            for numbers in lists_to_try(coins):
                kept = list(numbers)
                for row in rows_to_try(coins, 10):
                    laid(numbers, row)
                    self.assertEqual(numbers, kept)

    def test_told_lists_are_the_askers_own(self):
        for coins in COIN_COUNTS:
            numbers = list(range(1, 2 ** coins + 1))
            for row in ((1, 0, 0), (-1, 1, 1)):
                told = laid(numbers, row)
                wanted = list(told)
                told[0] = 77
                told.append(78)
                self.assertEqual(numbers, list(range(1, 2 ** coins + 1)))
                again = laid(numbers, row)
                self.assertEqual(again, wanted)
                numbers[0] = 99
                self.assertEqual(again, wanted)
                numbers[0] = 1

    def test_told_rows_are_new(self):
        row = (-1, 5, 3)
        for told in (product(row, (1, 0, 0)), product((1, 0, 0), row), moved(row, ("flip", 5)), moved(row, ("mix", 4)),
                     moved(row, ("meet", 3, 4)), moved(row, ("swap", 3, 4)), moved(row, ("follow", 3, 4))):
            self.assertEqual(told, row)
            self.assertIsNot(told, row)
            self.assertEqual([part.__class__ for part in told], [int, int, int])


if __name__ == "__main__":
    unittest.main()
