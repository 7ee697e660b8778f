import unittest
from fractions import Fraction
from itertools import product

from tests.helpers import (COIN_COUNTS, GREAT, NOT_FREE, WRONG_LENGTHS, Numbers, deeds, free_rows, full_sets,
                           is_least_form, keeps, list_kept_by, lists_to_try, lists_told_by_rows, minus,
                           multiplied_with_one_another, no_rows, plain_least, plain_least_rows, plain_overlap,
                           plain_products, rows_that_keep, unit_lists)
from turncoins.bridges import list_of, overlap, rows_of, rows_overlap
from turncoins.errors import NoList, NoRows, NoShort, NotFree
from turncoins.gates import turned
from turncoins.lists import first_list
from turncoins.looks import looked
from turncoins.shorts import first_rows, rows_looked, rows_turned

MULTIPLES = (1, -1, 2, -3, 97, 2 ** 90, 10 ** 28, -10 ** 28, 10 ** 28 - 1, 1 - 10 ** 28)

# Rows in least form, and the list that they keep.
PAIRS = (
    ([(1, 0, 1)], [1, 0]),
    ([(-1, 0, 1)], [0, 1]),
    ([(1, 1, 0)], [1, 1]),
    ([(-1, 1, 0)], [1, -1]),
    ([(1, 0, 1), (1, 0, 2)], [1, 0, 0, 0]),
    ([(-1, 0, 1), (1, 0, 2)], [0, 1, 0, 0]),
    ([(1, 0, 1), (-1, 0, 2)], [0, 0, 1, 0]),
    ([(1, 3, 0), (1, 0, 3)], [1, 0, 0, 1]),
    ([(-1, 3, 0), (1, 0, 3)], [1, 0, 0, -1]),
    ([(1, 3, 0), (-1, 0, 3)], [0, 1, 1, 0]),
    ([(-1, 3, 0), (-1, 0, 3)], [0, 1, -1, 0]),
    ([(1, 1, 2), (1, 2, 1)], [1, 1, 1, -1]),
    ([(-1, 2, 0), (-1, 0, 1)], [0, 1, 0, -1]),
    ([(1, 7, 0), (1, 0, 5), (-1, 0, 6)], [0, 0, 1, 0, 0, 1, 0, 0]),
    ([(1, 1, 6), (1, 2, 5), (1, 4, 3)], [1, 1, 1, -1, 1, -1, -1, -1]))


def walked(coins, many, seed):
    """The first list and rows, behind the same gates and looks."""
    numbers, rows = first_list(coins), first_rows(coins)
    for kind, deed in deeds(coins, many, seed):
        if kind == "gate":
            numbers, rows = turned(numbers, deed), rows_turned(rows, deed)
        else:
            numbers, rows = looked(numbers, *deed)[2], rows_looked(rows, *deed)[2]
    return numbers, rows


def walks(seeds):
    return [walked(coins, many, seed) for coins in COIN_COUNTS for seed in range(seeds) for many in (0, 3, 10, 40)]


def multiple(numbers, times):
    return [times * number for number in numbers]


def is_told_by_rows(numbers):
    return len(rows_that_keep(numbers)) == len(numbers)


class ListOf(unittest.TestCase):
    def test_ordinary_rows(self):
        for rows, wanted in PAIRS:
            with self.subTest(rows):
                self.assertEqual(list_of(rows), wanted)

    def test_the_first_rows(self):
        for coins in COIN_COUNTS:
            self.assertEqual(list_of(first_rows(coins)), first_list(coins))

    def test_the_list_that_the_same_gates_and_looks_make(self):
        for numbers, rows in walks(6):
            self.assertEqual(list_of(rows), numbers)

    def test_kept_by_each_row_and_in_least_form(self):
        for rows in full_sets(6) + [rows for numbers, rows in walks(3)]:
            told = list_of(rows)
            self.assertTrue(all(keeps(row, told) for row in rows), rows)
            self.assertEqual(told, plain_least(told))
            self.assertLessEqual(set(told), {0, 1, -1})
            self.assertEqual((len(told), told.__class__), (2 ** len(rows), list))
            self.assertEqual({number.__class__ for number in told}, {int})

    def test_rows_in_any_order_and_multiplied_with_one_another(self):
        for numbers, rows in walks(3):
            self.assertEqual(list_of(rows[::-1]), numbers)
            for seed in range(3):
                self.assertEqual(list_of(multiplied_with_one_another(rows, seed)), numbers)

    def test_rows_that_no_gates_made(self):
        for rows in full_sets(6):
            self.assertEqual(list_of(rows), list_kept_by(rows))

    def test_any_signs(self):
        """Each choice of signs keeps a list of its own, and these have nothing in common."""
        for coins in COIN_COUNTS:
            rows = free_rows(coins, coins, 7)
            lists = []
            for signs in product((1, -1), repeat=coins):
                signed = [row if sign == 1 else minus(row) for row, sign in zip(rows, signs)]
                lists.append(list_of(signed))
                self.assertTrue(all(keeps(row, lists[-1]) for row in signed))
            for one in lists:
                self.assertEqual(len([other for other in lists if sum(a * b for a, b in zip(one, other))]), 1)


class RowsOf(unittest.TestCase):
    def test_ordinary_lists(self):
        for wanted, numbers in PAIRS:
            with self.subTest(numbers):
                self.assertEqual(rows_of(numbers), wanted)

    def test_the_first_list(self):
        for coins in COIN_COUNTS:
            self.assertEqual(rows_of(first_list(coins)), first_rows(coins))

    def test_each_list_with_one_number(self):
        for coins in COIN_COUNTS:
            for place, numbers in enumerate(unit_lists(coins)):
                wanted = [(-1 if place >> coin & 1 else 1, 0, 2 ** coin) for coin in range(coins)]
                self.assertEqual(rows_of(numbers), wanted)

    def test_behind_the_same_gates_and_looks(self):
        for numbers, rows in walks(6):
            self.assertEqual(rows_of(numbers), rows)

    def test_multiples(self):
        for numbers, rows in walks(2):
            for times in MULTIPLES:
                self.assertEqual(rows_of(multiple(numbers, times)), rows)

    def test_the_least_form_of_any_rows_whose_list_it_is(self):
        for rows in full_sets(6):
            told = rows_of(list_kept_by(rows))
            self.assertEqual(told, plain_least_rows(rows, len(rows)))
            self.assertTrue(is_least_form(told, len(rows)))

    def test_they_are_all_that_keep_it(self):
        for coins, seeds in ((1, 4), (2, 4), (3, 4), (4, 4), (5, 3), (6, 2)):
            for seed in range(seeds):
                numbers = walked(coins, 40, seed)[0]
                self.assertEqual(set(plain_products(rows_of(numbers))), set(rows_that_keep(numbers)))

    def test_there_and_back(self):
        for rows in full_sets(4):
            self.assertEqual(list_of(rows_of(list_of(rows))), list_of(rows))

    def test_kinds_of_what_is_told(self):
        told = rows_of([10 ** 28, 0, 0, -10 ** 28])
        self.assertEqual([told.__class__] + [row.__class__ for row in told], [list, tuple, tuple])
        self.assertEqual([part.__class__ for row in told for part in row], [int] * 6)


class NoShorts(unittest.TestCase):
    def refused(self, numbers):
        with self.subTest(numbers), self.assertRaises(NoShort):
            rows_of(numbers)

    def check(self, numbers):
        """By the rows that keep it, tried one by one; tells whether it was refused."""
        if is_told_by_rows(numbers):
            self.assertEqual(list_of(rows_of(numbers)), plain_least(numbers))
            return False
        self.refused(numbers)
        return True

    def test_ordinary_lists(self):
        for numbers in ([1, 2], [2, 1], [1, -2], [3, 5], [1, 1, 1, 0], [0, 1, 1, 1], [1, -1, 0, 1], [1, 2, 0, 0],
                        [1, 1, 1, 2], [2, 2, 2, -4], [1, 1, 1, 1, 1, 1, 1, -1], [1, 1, 1, 0, 0, 0, 0, 1],
                        [1, 1, 1, 1, 1, 1, 0, 0], [10 ** 28, 10 ** 28 - 1], [GREAT, -GREAT, GREAT, 1 - GREAT]):
            self.refused(numbers)

    def test_all_lists_of_0_1_and_less_1(self):
        for coins in (1, 2, 3):
            told = lists_told_by_rows(coins)
            self.assertEqual(len(told), (4, 24, 240)[coins - 1])
            for numbers in product((0, 1, -1), repeat=2 ** coins):
                if any(numbers):
                    if tuple(plain_least(numbers)) in told:
                        self.assertEqual(list_of(rows_of(list(numbers))), plain_least(numbers))
                    else:
                        with self.assertRaises(NoShort, msg=numbers):
                            rows_of(list(numbers))

    def test_a_told_list_with_one_number_changed(self):
        refused = {True: 0, False: 0}
        for coins, seeds in ((1, 8), (2, 8), (3, 8), (4, 6), (5, 3), (6, 2)):
            numbers = Numbers(coins)
            for seed in range(seeds):
                told = walked(coins, 30, seed)[0]
                for changed in (0, 1, -1, 2, -2, 10 ** 28):
                    other = list(told)
                    other[numbers.below(len(told))] = changed
                    if any(other) and other != told:
                        refused[self.check(other)] += 1
                        # Of eight numbers and more, no change of a single one leads to another told list.
                        if len([number for number in told if number]) >= 8:
                            self.refused(other)
        self.assertGreater(min(refused.values()), 10, refused)

    def test_each_number_of_a_great_multiple_changed_by_1(self):
        for coins in COIN_COUNTS:
            told = walked(coins, 25, 3)[0]
            for times in (10 ** 28, -10 ** 28):
                for place in range(len(told)):
                    for more in (1, -1):
                        other = multiple(told, times)
                        other[place] += more
                        self.refused(other)

    def test_numbers_of_one_size_whose_signs_fit_no_rows(self):
        for coins in (3, 4, 5, 6):
            for one, other, third in ((0, 1, 2), (coins - 3, coins - 2, coins - 1)):
                bits = 2 ** one + 2 ** other + 2 ** third
                cubed = [-1 if place & bits == bits else 1 for place in range(2 ** coins)]
                self.assertFalse(is_told_by_rows(cubed))
                for times in MULTIPLES:
                    self.refused(multiple(cubed, times))
                for seed in range(3):
                    told = self.full_list(coins, seed)
                    self.refused([a * b for a, b in zip(told, cubed)])

    def full_list(self, coins, seed):
        """A told list without 0: signs and meets leave all numbers of one size."""
        numbers = [1] * 2 ** coins
        for kind, gate in deeds(coins, 40, seed):
            if kind == "gate" and gate[0] in ("flip", "sign", "follow", "meet", "swap"):
                numbers = turned(numbers, gate)
        self.assertNotIn(0, numbers)
        self.assertEqual(list_of(rows_of(numbers)), numbers)
        return numbers

    def test_signs_that_fit_no_rows_beside_noughts(self):
        for at in range(8):
            numbers = [1] * 8
            numbers[at] = -1
            for others in ([0] * 8, numbers):
                self.refused(others + numbers)
                self.refused(numbers + others)
            self.refused([number for one in numbers for number in (one, 0)])
            self.refused([0] * 24 + numbers + [0] * 32)

    def test_places_that_fit_no_rows(self):
        for coins in (2, 3, 4, 5, 6):
            length = 2 ** coins
            for many in range(3, length):
                if many & (many - 1) != 0:
                    self.refused([1] * many + [0] * (length - many))
            self.refused([1, 1, 1] + [0] * (length - 4) + [1 if coins > 2 else 0])
        self.refused([1, 1, 1, 0, 1, 0, 0, 0])
        self.refused([1, 0, 0, 0, 0, 1, 1, 1])

    def test_drawn_lists(self):
        for coins in COIN_COUNTS:
            for numbers in lists_to_try(coins, 2):
                if coins < 6 or 0 not in numbers:
                    self.check(numbers)

    def test_multiples_are_refused_too(self):
        for times in MULTIPLES:
            for numbers in ([1, 2], [1, 1, 1, 0], [1, 1, 1, 1, 1, 1, 1, -1]):
                self.refused(multiple(numbers, times))


class Overlap(unittest.TestCase):
    def test_ordinary_lists(self):
        for one, other, wanted in (
                ([1, 0], [1, 0], (1, 1)),
                ([1, 0], [0, 1], (0, 1)),
                ([1, 0], [1, 1], (1, 2)),
                ([1, 1], [1, -1], (0, 1)),
                ([1, 2], [2, 1], (16, 25)),
                ([1, 2], [2, -1], (0, 1)),
                ([1, 2], [-3, -6], (1, 1)),
                ([3, 4], [4, 3], (576, 625)),
                ([1, 0, 0, 1], [1, 0, 0, 0], (1, 2)),
                ([1, 1, 1, -1], [1, 1, 1, 1], (1, 4)),
                ([1, 0, 0, 1], [0, 1, 1, 0], (0, 1)),
                ([GREAT, 0], [GREAT, -GREAT], (1, 2))):
            with self.subTest(one, other=other):
                self.assertEqual(overlap(one, other), wanted)
                self.assertEqual(overlap(other, one), wanted)

    def test_against_the_sums(self):
        for coins in COIN_COUNTS:
            for one in lists_to_try(coins):
                for other in lists_to_try(coins, 1) + [one]:
                    wanted = plain_overlap(one, other)
                    told = overlap(one, other)
                    self.assertEqual(told, (wanted.numerator, wanted.denominator))
                    self.assertEqual(overlap(other, one), told)

    def test_1_just_where_both_tell_the_same(self):
        for coins in COIN_COUNTS:
            tried = lists_to_try(coins)
            for one in tried:
                for other in tried:
                    self.assertEqual(overlap(one, other) == (1, 1), plain_least(one) == plain_least(other))
                for times in MULTIPLES[:5]:
                    self.assertEqual(overlap(one, multiple(one, times)), (1, 1))
        self.assertNotEqual(overlap([GREAT, GREAT - 1], [GREAT, GREAT]), (1, 1))
        self.assertNotEqual(overlap([GREAT, 1], [GREAT, 0]), (1, 1))

    def test_multiples_tell_the_same(self):
        for coins in COIN_COUNTS:
            for one, other in zip(lists_to_try(coins), lists_to_try(coins, 1)[::-1]):
                for times in (-1, 2, -10 ** 28):
                    self.assertEqual(overlap(multiple(one, times), other), overlap(one, other))
                    self.assertEqual(overlap(one, multiple(other, times)), overlap(one, other))

    def test_nothing_in_common(self):
        for coins in COIN_COUNTS:
            length = 2 ** coins
            for one in unit_lists(coins):
                for other in unit_lists(coins):
                    self.assertEqual(overlap(one, other), (1, 1) if one == other else (0, 1))
            self.assertEqual(overlap([GREAT] * (length // 2) + [0] * (length // 2),
                                     [0] * (length // 2) + [-GREAT] * (length // 2)), (0, 1))
            self.assertEqual(overlap([7, 5] * (length // 2), [5, -7] * (length // 2)), (0, 1))

    def test_kinds_of_what_is_told(self):
        for one, other in (([1, 0], [0, 1]), ([1, 2], [2, 1]), ([1, 2], [1, 2])):
            told = overlap(one, other)
            self.assertEqual([told.__class__] + [part.__class__ for part in told], [tuple, int, int])
            self.assertGreater(told[1], 0)


def some_like(rows, seed):
    """Rows beside others: the same, some with other signs, and what gates and looks make of them."""
    numbers = Numbers(seed)
    beside = [rows, multiplied_with_one_another(rows, seed)]
    for times in range(3):
        beside.append([row if numbers.below(3) else minus(row) for row in rows])
    for many in (1, 2, 4, 8):
        coming = rows
        for kind, deed in deeds(len(rows), many, seed + many):
            coming = rows_turned(coming, deed) if kind == "gate" else rows_looked(coming, *deed)[2]
        beside.append(coming)
    return beside


class RowsOverlap(unittest.TestCase):
    def test_ordinary_rows(self):
        bell = [(1, 3, 0), (1, 0, 3)]
        for one, other, wanted in (
                ([(1, 0, 1)], [(1, 0, 1)], (1, 1)),
                ([(1, 0, 1)], [(-1, 0, 1)], (0, 1)),
                ([(1, 0, 1)], [(1, 1, 0)], (1, 2)),
                ([(1, 0, 1)], [(-1, 1, 0)], (1, 2)),
                (bell, bell, (1, 1)),
                (bell, [(-1, 3, 3), (1, 0, 3)], (0, 1)),
                (bell, [(1, 3, 3), (1, 3, 0)], (1, 1)),
                (bell, [(1, 0, 1), (1, 0, 2)], (1, 2)),
                (bell, [(1, 0, 1), (-1, 0, 2)], (0, 1)),
                (bell, [(1, 1, 0), (1, 0, 2)], (1, 4)),
                ([(1, 0, 1), (1, 0, 2), (1, 0, 4)], [(1, 1, 0), (1, 2, 0), (-1, 4, 0)], (1, 8))):
            with self.subTest(one, other=other):
                self.assertEqual(rows_overlap(one, other), wanted)
                self.assertEqual(rows_overlap(other, one), wanted)

    def test_against_the_lists_and_against_the_rows_made_of_both(self):
        seen = {}
        for at, one in enumerate(full_sets(5)):
            coins = len(one)
            for other in some_like(one, at) + [free_rows(coins, coins, 40 + at), first_rows(coins)]:
                told = rows_overlap(one, other)
                by_lists = plain_overlap(list_kept_by(one), list_kept_by(other))
                self.assertEqual(told, (by_lists.numerator, by_lists.denominator), (one, other))
                made, beside = plain_products(one), plain_products(other)
                alike = len([row for row in made if row in beside])
                unlike = [row for row in made if minus(row) in beside]
                self.assertEqual(Fraction(*told), 0 if unlike else Fraction(alike, 2 ** coins), (one, other))
                self.assertEqual(rows_overlap(other, one), told)
                seen[told] = seen.get(told, 0) + 1
        self.assertLessEqual({(0, 1), (1, 1), (1, 2), (1, 4), (1, 8), (1, 16), (1, 32)}, set(seen))

    def test_1_just_where_the_least_forms_are_alike(self):
        for coins in (1, 2, 3):
            sets = [free_rows(coins, coins, seed) for seed in range(20)]
            for one in sets:
                for other in sets:
                    self.assertEqual(rows_overlap(one, other) == (1, 1),
                                     plain_least_rows(one, coins) == plain_least_rows(other, coins))

    def test_the_least_there_is(self):
        for coins in COIN_COUNTS:
            other = [(1, 2 ** coin, 0) for coin in range(coins)]
            self.assertEqual(rows_overlap(first_rows(coins), other), (1, 2 ** coins))

    def test_kinds_of_what_is_told(self):
        for other in ([(1, 0, 1)], [(-1, 0, 1)], [(1, 1, 0)]):
            told = rows_overlap([(1, 0, 1)], other)
            self.assertEqual([told.__class__] + [part.__class__ for part in told], [tuple, int, int])


class Refused(unittest.TestCase):
    def test_lists_by_length_and_by_noughts_alone(self):
        wrong = [[1] * length for length in WRONG_LENGTHS] + [[0] * length for length in WRONG_LENGTHS]
        wrong += [[1, 2] + [0] * (length - 2) for length in WRONG_LENGTHS if length > 1]
        for numbers in wrong + [[0] * 2 ** coins for coins in COIN_COUNTS]:
            with self.subTest(numbers):
                with self.assertRaises(NoList):
                    rows_of(numbers)
                for other in ([1, 0], [3, 5, 0, 0], numbers):
                    with self.assertRaises(NoList):
                        overlap(numbers, other)
                    with self.assertRaises(NoList):
                        overlap(other, numbers)

    def test_no_rows_ahead_of_rows_that_do_not_stand_free(self):
        for rows in no_rows():
            for ask in (lambda: list_of(rows), lambda: rows_overlap(rows, [(1, 0, 1)]),
                        lambda: rows_overlap([(1, 0, 1)], rows), lambda: rows_overlap(rows, rows)):
                with self.subTest(rows), self.assertRaises(NoRows):
                    ask()

    def test_rows_that_do_not_stand_free(self):
        for rows, which in NOT_FREE:
            good = first_rows(len(rows))
            for ask in (lambda: list_of(rows), lambda: rows_overlap(rows, good), lambda: rows_overlap(good, rows)):
                with self.subTest(rows), self.assertRaises(NotFree) as taken:
                    ask()
                self.assertEqual(taken.exception.which, which)

    def test_the_one_ahead_of_the_other(self):
        for rows, which in NOT_FREE:
            for wrong in ([], [(1, 0, 64)], [(0, 0, 1)], [(1, 0, 1)] * 7):
                with self.subTest(rows), self.assertRaises(NotFree) as taken:
                    rows_overlap(rows, wrong)
                self.assertEqual(taken.exception.which, which)
                with self.subTest(rows), self.assertRaises(NoRows):
                    rows_overlap(wrong, rows)
            for other, beside in NOT_FREE:
                with self.subTest(rows, other=other), self.assertRaises(NotFree) as taken:
                    rows_overlap(rows, other)
                self.assertEqual(taken.exception.which, which)


class AskersOwn(unittest.TestCase):
    def test_what_is_handed_in_stays(self):
        for rows in full_sets(2):
            numbers = multiple(list_of(rows), -6)
            kept = (list(rows), list(numbers))
            list_of(rows)
            rows_of(numbers)
            overlap(numbers, numbers)
            rows_overlap(rows, rows)
            self.assertEqual((rows, numbers), kept)

    def test_what_is_handed_in_stays_where_it_is_refused(self):
        numbers, noughts = [4, 8, -2, 0], [0, 0]
        with self.assertRaises(NoShort):
            rows_of(numbers)
        with self.assertRaises(NoList):
            overlap(numbers, noughts)
        self.assertEqual((numbers, noughts), ([4, 8, -2, 0], [0, 0]))
        for rows, which in NOT_FREE:
            kept = list(rows)
            for ask in (lambda: list_of(rows), lambda: rows_overlap(rows, rows)):
                with self.assertRaises(NotFree):
                    ask()
            self.assertEqual(rows, kept)

    def test_a_changed_told_list_changes_nothing_else(self):
        for rows in full_sets(2):
            numbers = list_of(rows)
            kept = (list(rows), list(numbers))
            for ask in (lambda: list_of(rows), lambda: rows_of(numbers), lambda: rows_of(first_list(len(rows)))):
                told, beside = ask(), ask()
                wanted = list(beside)
                told[0] = 77
                told.append(78)
                self.assertEqual((beside, ask()), (wanted, wanted))
                self.assertEqual((rows, numbers), kept)

    def test_a_change_of_what_was_handed_in_changes_nothing_told(self):
        rows, numbers = [(1, 3, 0), (1, 0, 3)], [1, 0, 0, 1]
        told = [list_of(rows), rows_of(numbers), overlap(numbers, numbers), rows_overlap(rows, rows)]
        rows[0] = (1, 0, 1)
        rows.append((1, 0, 0))
        numbers[1] = 9
        self.assertEqual(told, [[1, 0, 0, 1], [(1, 3, 0), (1, 0, 3)], (1, 1), (1, 1)])


if __name__ == "__main__":
    unittest.main()
