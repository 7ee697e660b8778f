import unittest

from tests.helpers import COIN_COUNTS, GREAT, WRONG_LENGTHS, lists_to_try, plain_least
from turncoins.errors import NoList
from turncoins.lists import first_list, least


class Least(unittest.TestCase):
    def test_ordinary_lists(self):
        for numbers, wanted in (
                ([1, 0], [1, 0]),
                ([2, 0], [1, 0]),
                ([0, 7], [0, 1]),
                ([2, 4], [1, 2]),
                ([3, 5], [3, 5]),
                ([6, -10], [3, -5]),
                ([1, 1, 1, 1], [1, 1, 1, 1]),
                ([4, -6, 8, 10], [2, -3, 4, 5]),
                ([0, 0, 6, 9], [0, 0, 2, 3]),
                ([6, 10, 15, 0], [6, 10, 15, 0]),
                ([0, 12, 0, 0, 0, 0, -18, 0], [0, 2, 0, 0, 0, 0, -3, 0])):
            with self.subTest(numbers):
                self.assertEqual(least(numbers), wanted)

    def test_first_number_below_nought(self):
        for numbers, wanted in (
                ([-1, 0], [1, 0]),
                ([0, -1], [0, 1]),
                ([-1, 1], [1, -1]),
                ([-3, -6], [1, 2]),
                ([0, -4, 6, 0], [0, 2, -3, 0]),
                ([0, 0, 0, -GREAT], [0, 0, 0, 1]),
                ([1, -1], [1, -1]),
                ([0, 2, -4, -6], [0, 1, -2, -3])):
            with self.subTest(numbers):
                self.assertEqual(least(numbers), wanted)

    def test_great_numbers(self):
        for numbers, wanted in (
                ([GREAT, GREAT], [1, 1]),
                ([-GREAT, GREAT], [1, -1]),
                ([GREAT, GREAT - 1], [GREAT, GREAT - 1]),
                ([-GREAT, GREAT - 1], [GREAT, 1 - GREAT]),
                ([GREAT, 5 ** 30], [2 ** 30, 1]),
                ([0, GREAT, 0, -GREAT // 2], [0, 2, 0, -1]),
                ([GREAT * GREAT, GREAT], [GREAT, 1])):
            with self.subTest(numbers):
                self.assertEqual(least(numbers), wanted)

    def test_mostly_noughts(self):
        for coins in COIN_COUNTS:
            for place in range(2 ** coins):
                for number in (1, -1, 12, -GREAT):
                    numbers = [0] * 2 ** coins
                    numbers[place] = number
                    wanted = [0] * 2 ** coins
                    wanted[place] = 1
                    self.assertEqual(least(numbers), wanted)

    def test_every_length_against_its_words(self):
        for coins in COIN_COUNTS:
            for numbers in lists_to_try(coins):
                with self.subTest(numbers=numbers):
                    self.assertEqual(least(numbers), plain_least(numbers))

    def test_least_form_is_its_own_least_form(self):
        for coins in COIN_COUNTS:
            for numbers in lists_to_try(coins):
                self.assertEqual(least(least(numbers)), least(numbers))

    def test_multiples_have_one_least_form(self):
        for coins in COIN_COUNTS:
            for numbers in lists_to_try(coins):
                for times in (-1, 2, -7, GREAT):
                    self.assertEqual(least([times * number for number in numbers]), least(numbers))

    def test_told_is_a_list_of_whole_numbers(self):
        told = least([-2, 4])
        self.assertIs(told.__class__, list)
        self.assertEqual([number.__class__ for number in told], [int, int])


class Refused(unittest.TestCase):
    def test_noughts_alone(self):
        for coins in COIN_COUNTS:
            with self.subTest(coins), self.assertRaises(NoList):
                least([0] * 2 ** coins)

    def test_other_lengths(self):
        for length in WRONG_LENGTHS:
            for number in (0, 1, -GREAT):
                with self.subTest(length, number=number), self.assertRaises(NoList):
                    least([number] * length)


class FirstList(unittest.TestCase):
    def test_one_to_six_coins(self):
        self.assertEqual(first_list(1), [1, 0])
        self.assertEqual(first_list(2), [1, 0, 0, 0])
        self.assertEqual(first_list(3), [1, 0, 0, 0, 0, 0, 0, 0])
        for coins in COIN_COUNTS:
            with self.subTest(coins):
                self.assertEqual(first_list(coins), [1 if place == 0 else 0 for place in range(2 ** coins)])

    def test_other_numbers_of_coins(self):
        for coins in (0, -1, -2, -6, -7, -GREAT, 7, 8, 12, 64, GREAT, 10 ** 5000, -10 ** 5000):
            with self.subTest(bits=coins.bit_length()), self.assertRaises(NoList):
                first_list(coins)


class AskersOwn(unittest.TestCase):
    def test_what_is_handed_in_stays(self):
        for coins in COIN_COUNTS:
            for numbers in lists_to_try(coins):
                kept = list(numbers)
                least(numbers)
                self.assertEqual(numbers, kept)

    def test_what_is_refused_stays(self):
        for numbers in ([0, 0], [2, 4, 6]):
            kept = list(numbers)
            with self.assertRaises(NoList):
                least(numbers)
            self.assertEqual(numbers, kept)

    def test_told_is_new_even_where_nothing_is_to_do(self):
        for coins in COIN_COUNTS:
            numbers = first_list(coins)
            told = least(numbers)
            told[0] = 5
            self.assertEqual(numbers, first_list(coins))
            self.assertEqual(least(numbers), first_list(coins))
            numbers[0] = 9
            self.assertEqual(told[0], 5)

    def test_a_changed_first_list_changes_no_later_one(self):
        for coins in COIN_COUNTS:
            told = first_list(coins)
            told[0] = 0
            told.append(3)
            self.assertEqual(first_list(coins), [1] + [0] * (2 ** coins - 1))


if __name__ == "__main__":
    unittest.main()
