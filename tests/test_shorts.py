import unittest
from itertools import permutations

from tests.helpers import (COIN_COUNTS, GREAT, NOT_FREE, all_gates, all_rows, free_rows, full_sets, is_least_form,
                           keeps, list_kept_by, minus, multiplied_with_one_another, no_gates, no_letters, no_rows,
                           plain_agree, plain_even, plain_laid, plain_least, plain_least_rows, plain_products,
                           plain_turned, rows_to_try, stands_free)
from turncoins.errors import NoGate, NoLook, NoRows, NotFree
from turncoins.lists import first_list
from turncoins.looks import looked
from turncoins.shorts import checked, first_rows, rows_looked, rows_turned


def least_form(rows):
    return plain_least_rows(rows, len(rows))


class FirstRows(unittest.TestCase):
    def test_one_to_six_coins(self):
        self.assertEqual(first_rows(1), [(1, 0, 1)])
        self.assertEqual(first_rows(2), [(1, 0, 1), (1, 0, 2)])
        for coins in COIN_COUNTS:
            self.assertEqual(first_rows(coins), [(1, 0, 2 ** coin) for coin in range(coins)])

    def test_they_keep_the_first_list(self):
        for coins in COIN_COUNTS:
            self.assertEqual(list_kept_by(first_rows(coins)), first_list(coins))

    def test_they_are_in_least_form(self):
        for coins in COIN_COUNTS:
            self.assertEqual(checked(first_rows(coins)), first_rows(coins))

    def test_other_numbers_of_coins(self):
        for coins in (0, -1, -2, -6, -7, -GREAT, 7, 8, 12, 64, GREAT, 10 ** 5000, -10 ** 5000):
            with self.subTest(bits=coins.bit_length()), self.assertRaises(NoRows):
                first_rows(coins)


class Checked(unittest.TestCase):
    def test_ordinary_rows(self):
        for rows, wanted in (
                ([(1, 1, 0)], [(1, 1, 0)]),
                ([(-1, 0, 1)], [(-1, 0, 1)]),
                ([(1, 0, 2), (1, 0, 1)], [(1, 0, 1), (1, 0, 2)]),
                ([(1, 3, 3), (1, 0, 3)], [(1, 3, 0), (1, 0, 3)]),
                ([(1, 1, 2), (-1, 3, 3)], [(1, 1, 2), (1, 2, 1)]),
                ([(1, 0, 7), (-1, 0, 6), (1, 0, 4)], [(-1, 0, 1), (-1, 0, 2), (1, 0, 4)])):
            with self.subTest(rows):
                self.assertEqual(checked(rows), wanted)

    def test_told_in_least_form(self):
        for rows in full_sets():
            told = checked(rows)
            self.assertTrue(is_least_form(told, len(rows)))
            self.assertEqual(set(plain_products(told)), set(plain_products(rows)))
            self.assertEqual(told, least_form(rows))

    def test_rows_with_the_same_products(self):
        for rows in full_sets():
            for seed in range(3):
                self.assertEqual(checked(multiplied_with_one_another(rows, seed)), checked(rows))

    def test_alike_just_where_the_lists_are(self):
        for coins in (1, 2, 3):
            sets = [free_rows(coins, coins, seed) for seed in range(40)]
            for one in sets:
                for other in sets:
                    self.assertEqual(checked(one) == checked(other), list_kept_by(one) == list_kept_by(other))


class Turned(unittest.TestCase):
    def test_ordinary_rows(self):
        for rows, gate, wanted in (
                ([(1, 0, 1)], ("mix", 0), [(1, 1, 0)]),
                ([(1, 0, 1)], ("flip", 0), [(-1, 0, 1)]),
                ([(1, 0, 1)], ("sign", 0), [(1, 0, 1)]),
                ([(1, 1, 0)], ("sign", 0), [(-1, 1, 0)]),
                ([(1, 1, 0), (1, 0, 2)], ("follow", 0, 1), [(1, 3, 0), (1, 0, 3)]),
                ([(1, 1, 0), (1, 2, 0)], ("meet", 0, 1), [(1, 1, 2), (1, 2, 1)]),
                ([(1, 1, 0), (-1, 0, 2)], ("swap", 0, 1), [(1, 2, 0), (-1, 0, 1)])):
            with self.subTest(rows, gate=gate):
                self.assertEqual(rows_turned(rows, gate), wanted)

    def test_each_gate_against_the_list_that_the_rows_keep(self):
        for rows in full_sets():
            numbers = list_kept_by(rows)
            for gate in all_gates(len(rows)):
                told = rows_turned(rows, gate)
                wanted = plain_turned(numbers, gate)
                self.assertTrue(all(keeps(row, wanted) for row in told), (rows, gate))
                self.assertTrue(is_least_form(told, len(rows)) and len(told) == len(rows), (rows, gate))

    def test_told_in_least_form_whatever_free_rows_were_handed_in(self):
        for rows in full_sets(2):
            others = multiplied_with_one_another(rows, 1)
            for gate in all_gates(len(rows)):
                self.assertEqual(rows_turned(others, gate), rows_turned(rows, gate))

    def test_twice_is_as_it_was(self):
        for rows in full_sets(2):
            for gate in all_gates(len(rows)):
                self.assertEqual(rows_turned(rows_turned(rows, gate), gate), checked(rows))


class Looked(unittest.TestCase):
    def test_ordinary_looks(self):
        bell = [(1, 3, 0), (1, 0, 3)]
        for rows, row, wish, wanted in (
                ([(1, 0, 1)], (1, 0, 1), 0, (0, (1, 1), [(1, 0, 1)])),
                ([(1, 0, 1)], (1, 0, 1), 1, (0, (1, 1), [(1, 0, 1)])),
                ([(1, 0, 1)], (-1, 0, 1), 0, (1, (1, 1), [(1, 0, 1)])),
                ([(-1, 0, 1)], (1, 0, 1), 0, (1, (1, 1), [(-1, 0, 1)])),
                ([(1, 0, 1)], (1, 1, 0), 0, (0, (1, 2), [(1, 1, 0)])),
                ([(1, 0, 1)], (1, 1, 0), 1, (1, (1, 2), [(-1, 1, 0)])),
                ([(1, 0, 1)], (-1, 1, 0), 0, (0, (1, 2), [(-1, 1, 0)])),
                ([(1, 0, 1)], (-1, 1, 0), 1, (1, (1, 2), [(1, 1, 0)])),
                ([(1, 1, 0)], (1, 0, 0), 1, (0, (1, 1), [(1, 1, 0)])),
                ([(1, 1, 0)], (-1, 0, 0), 0, (1, (1, 1), [(1, 1, 0)])),
                (bell, (1, 3, 3), 1, (0, (1, 1), bell)),
                (bell, (-1, 3, 3), 0, (1, (1, 1), bell)),
                (bell, (1, 0, 1), 0, (0, (1, 2), [(1, 0, 1), (1, 0, 2)])),
                (bell, (1, 0, 1), 1, (1, (1, 2), [(-1, 0, 1), (-1, 0, 2)])),
                (bell, (1, 2, 0), 1, (1, (1, 2), [(-1, 1, 0), (-1, 2, 0)])),
                (bell, (1, 1, 2), 0, (0, (1, 2), [(1, 1, 2), (-1, 2, 1)]))):
            with self.subTest(rows, row=row, wish=wish):
                self.assertEqual(rows_looked(rows, row, wish), wanted)

    def check_look(self, rows, row, wish):
        """Against the list that the rows keep, by the sums of point 10; tells whether it was for sure."""
        numbers = list_kept_by(rows)
        sent = plain_laid(numbers, row)
        kept, turned = sent == numbers, sent == [-number for number in numbers]
        sure = kept or turned
        told, likely, behind = rows_looked(rows, row, wish)
        self.assertEqual(told, 0 if kept else 1 if turned else wish, (rows, row, wish))
        self.assertEqual(likely, (1, 1) if sure else (1, 2), (rows, row, wish))
        wanted = plain_least([a + b if told == 0 else a - b for a, b in zip(numbers, sent)])
        self.assertEqual(looked(numbers, row, wish), (told, likely, wanted))
        self.assertTrue(all(keeps(other, wanted) for other in behind), (rows, row, wish))
        self.assertTrue(is_least_form(behind, len(rows)) and len(behind) == len(rows), (rows, row, wish))
        return sure

    def test_all_looks_of_one_and_two_coins(self):
        for coins in (1, 2):
            for rows in permutations([row for row in all_rows(coins) if plain_even(row)], coins):
                if stands_free(rows):
                    for row in all_rows(coins):
                        if plain_even(row):
                            for wish in (0, 1):
                                self.check_look(list(rows), row, wish)

    def test_drawn_looks_against_the_list(self):
        seen = {True: 0, False: 0}
        for rows in full_sets():
            coins = len(rows)
            for row in [row for row in rows_to_try(coins, 30, 3) if plain_even(row)]:
                for wish in (0, 1):
                    seen[self.check_look(rows, row, wish)] += 1
        self.assertGreater(min(seen.values()), 100, seen)

    def test_products_of_the_rows_are_told_for_sure(self):
        for rows in full_sets(2):
            for row in list(plain_products(rows))[:20]:
                for wish in (0, 1):
                    self.assertEqual(rows_looked(rows, row, wish), (0, (1, 1), least_form(rows)))
                    self.assertEqual(rows_looked(rows, minus(row), wish), (1, (1, 1), least_form(rows)))

    def test_behind_a_look_by_chance(self):
        """The rows behind are the row with the sign told, and those products before that agree with it."""
        for rows in full_sets(2):
            for row in [row for row in rows_to_try(len(rows), 20, 4) if plain_even(row)]:
                if not all(plain_agree(row, other) for other in rows):
                    staying = [other for other in plain_products(rows) if plain_agree(row, other)]
                    for wish in (0, 1):
                        behind = set(plain_products(rows_looked(rows, row, wish)[2]))
                        self.assertIn(row if wish == 0 else minus(row), behind)
                        self.assertLessEqual(set(staying), behind)
                        self.assertEqual(len(behind), 2 * len(staying))

    def test_told_in_least_form_whatever_free_rows_were_handed_in(self):
        for rows in full_sets(2):
            others = multiplied_with_one_another(rows, 2)
            for row in [row for row in rows_to_try(len(rows), 20, 5) if plain_even(row)]:
                for wish in (0, 1):
                    self.assertEqual(rows_looked(others, row, wish), rows_looked(rows, row, wish))

    def test_the_wish_left_out_is_0(self):
        self.assertEqual(rows_looked([(1, 0, 1)], (1, 1, 0)), (0, (1, 2), [(1, 1, 0)]))
        self.assertEqual(rows_looked([(-1, 0, 1)], (1, 0, 1)), (1, (1, 1), [(-1, 0, 1)]))
        for rows in full_sets(1):
            for row in [row for row in rows_to_try(len(rows), 20, 6) if plain_even(row)]:
                self.assertEqual(rows_looked(rows, row), rows_looked(rows, row, 0))
                self.assertEqual(rows_looked(rows, row, wish=1), rows_looked(rows, row, 1))

    def test_a_second_look_tells_the_same_for_sure(self):
        for rows in full_sets(2):
            for row in [row for row in rows_to_try(len(rows), 20, 7) if plain_even(row)]:
                for wish in (0, 1):
                    told, likely, behind = rows_looked(rows, row, wish)
                    self.assertEqual(rows_looked(behind, row, 1 - told), (told, (1, 1), behind))

    def test_rows_without_letters(self):
        for rows in full_sets(1):
            for wish in (0, 1):
                self.assertEqual(rows_looked(rows, (1, 0, 0), wish), (0, (1, 1), least_form(rows)))
                self.assertEqual(rows_looked(rows, (-1, 0, 0), wish), (1, (1, 1), least_form(rows)))
            self.assertFalse([row for row in least_form(rows) if no_letters(row)])

    def test_kinds_of_what_is_told(self):
        for row in ((1, 0, 1), (1, 1, 0)):
            told = rows_looked([(1, 0, 1)], row, 1)
            self.assertEqual([told.__class__] + [part.__class__ for part in told], [tuple, int, tuple, list])
            self.assertEqual([part.__class__ for part in told[1] + told[2][0]], [int] * 5)
            self.assertIs(told[2][0].__class__, tuple)


class Refused(unittest.TestCase):
    def ways(self):
        """Each function that rows are handed to, with what is good behind them and what isn't."""
        return [checked] + [lambda rows, gate=gate: rows_turned(rows, gate)
                            for gate in (("flip", 0), ("flip", 6), ("turn",), (), ("swap", 0, 0), ([], 0))] + [
            lambda rows, row=row, wish=wish: rows_looked(rows, row, wish)
            for row in ((1, 0, 1), (1, 0, 0), (1, 1, 1), (0, 0, 0), (1, -1, 0), (1, 0, 64)) for wish in (0, 1)]

    def test_no_rows_ahead_of_all_else(self):
        for rows in no_rows():
            for way in self.ways():
                with self.subTest(rows), self.assertRaises(NoRows):
                    way(list(rows))

    def test_rows_that_do_not_stand_free_behind_it(self):
        for rows, which in NOT_FREE:
            for way in self.ways():
                with self.subTest(rows), self.assertRaises(NotFree) as taken:
                    way(list(rows))
                self.assertEqual(taken.exception.which, which)

    def test_bits_are_asked_of_as_many_coins_as_rows(self):
        for coins in COIN_COUNTS:
            for many in COIN_COUNTS:
                rows = free_rows(coins, coins, 3)[:many]
                if len(rows) < many:
                    continue
                if max(max(row[1:]) for row in rows) < 2 ** many:
                    self.assertEqual(checked(rows), least_form(rows))
                else:
                    with self.assertRaises(NoRows):
                        checked(rows)

    def test_gates_behind_the_rows(self):
        for coins in COIN_COUNTS:
            for gate in no_gates(coins):
                with self.subTest(coins, word=gate[:1].__class__, parts=len(gate)):
                    with self.assertRaises(NoGate) as taken:
                        rows_turned(first_rows(coins), gate)
                    self.assertEqual(taken.exception.at, 0)

    def test_the_rows_own_coins_count_for_gates(self):
        for coins in COIN_COUNTS:
            for gate in all_gates(6):
                if max(gate[1:]) < coins:
                    rows_turned(first_rows(coins), gate)
                else:
                    with self.assertRaises(NoGate):
                        rows_turned(first_rows(coins), gate)

    def test_looks_behind_the_rows(self):
        for coins in COIN_COUNTS:
            beyond = 2 ** coins
            for row in ((1, 1, 1), (-1, 1, 1), (-1, beyond - 1, 1), (0, 0, 0), (2, 1, 0), (-2, 0, 1), (1, beyond, 0),
                        (1, 0, beyond), (-1, beyond + 1, 0), (1, beyond, beyond), (1, -1, 0), (1, 0, -1), (1, -1, -1),
                        (1, -2, 0), (-1, 0, 10 ** 40), (1, beyond + 1, beyond + 1)):
                for wish in (0, 1):
                    for rows in (first_rows(coins), free_rows(coins, coins, 2)):
                        with self.subTest(rows, row=row), self.assertRaises(NoLook):
                            rows_looked(rows, row, wish)

    def test_every_row_that_is_not_even(self):
        for rows in full_sets(1):
            for row in rows_to_try(len(rows), 60):
                if plain_even(row):
                    rows_looked(rows, row)
                else:
                    with self.assertRaises(NoLook):
                        rows_looked(rows, row)


class AskersOwn(unittest.TestCase):
    def test_what_is_handed_in_stays(self):
        for rows in full_sets(2):
            kept = list(rows)
            checked(rows)
            rows_turned(rows, ("mix", 0))
            rows_looked(rows, (1, 0, 1), 1)
            rows_looked(rows, (1, 1, 0))
            with self.assertRaises(NoGate):
                rows_turned(rows, ("mix", 6))
            with self.assertRaises(NoLook):
                rows_looked(rows, (1, 1, 1))
            self.assertEqual(rows, kept)
        for rows in [[]] + [rows for rows, which in NOT_FREE]:
            kept = list(rows)
            with self.assertRaises((NoRows, NotFree)):
                checked(rows)
            self.assertEqual(rows, kept)

    def test_a_changed_told_list_changes_nothing_else(self):
        for rows in full_sets(2):
            kept = list(rows)
            for ask in (lambda: checked(rows), lambda: rows_turned(rows, ("flip", 0)),
                        lambda: rows_looked(rows, (1, 0, 1))[2], lambda: rows_looked(rows, (1, 0, 0))[2],
                        lambda: rows_looked(rows, (1, 1, 0), 1)[2], lambda: first_rows(len(kept))):
                told, beside = ask(), ask()
                wanted = list(beside)
                told[0] = (1, 0, 0)
                told.append((1, 1, 1))
                self.assertEqual((rows, beside, ask()), (kept, wanted, wanted))

    def test_a_change_of_what_was_handed_in_changes_nothing_told(self):
        rows = [(1, 0, 1), (1, 0, 2)]
        told = [checked(rows), rows_turned(rows, ("flip", 0)), rows_looked(rows, (1, 0, 3))]
        rows[0] = (1, 3, 3)
        rows.append((1, 0, 0))
        self.assertEqual(told, [[(1, 0, 1), (1, 0, 2)], [(-1, 0, 1), (1, 0, 2)],
                                (0, (1, 1), [(1, 0, 1), (1, 0, 2)])])

    def test_numbers_of_rows_are_the_takers_own(self):
        rows = [(1, 1, 0), (1, 1, 0)]
        for times in range(2):
            with self.assertRaises(NotFree) as taken:
                checked(rows)
            self.assertEqual(taken.exception.which, [0, 1])
            taken.exception.which.append(9)
        self.assertEqual(rows, [(1, 1, 0), (1, 1, 0)])

    def test_told_tuples_are_new(self):
        rows, row = [(1, 0, 1)], (1, 1, 0)
        told = [checked(rows)[0], rows_turned(rows, ("sign", 0))[0], rows_looked(rows, (1, 0, 0))[2][0]]
        for one in told:
            self.assertEqual(one, rows[0])
            self.assertIsNot(one, rows[0])
        self.assertIsNot(rows_looked(rows, row)[2][0], row)


if __name__ == "__main__":
    unittest.main()
