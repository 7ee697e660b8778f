"""Lists and rows beside one another: whatever gates and looks come, both tell the same."""

import unittest
from fractions import Fraction

from tests.helpers import (COIN_COUNTS, Numbers, all_gates, any_row, free_rows, is_least_form, keeps, list_kept_by,
                           no_letters, plain_even, plain_least, plain_turned)
from turncoins.gates import turned, turned_by
from turncoins.lists import first_list, least
from turncoins.looks import chance, looked
from turncoins.rows import laid, moved
from turncoins.shorts import checked, first_rows, rows_looked, rows_turned


def deeds(coins, many, seed):
    """Gates, and pairs of an even row and a wish, in whatever order."""
    numbers = Numbers(100 * seed + coins)
    gates = all_gates(coins)
    drawn = []
    while len(drawn) < many:
        row = any_row(coins, numbers)
        if numbers.below(3) < 2:
            drawn.append(("gate", numbers.choice(gates)))
        elif plain_even(row):
            drawn.append(("look", (row, numbers.below(2))))
    return drawn


class BesideOneAnother(unittest.TestCase):
    def setUp(self):
        self.seen = {}

    def check_state(self, numbers, rows):
        self.assertEqual(numbers, plain_least(numbers))
        self.assertTrue(is_least_form(rows, len(rows)))
        for row in rows:
            self.assertTrue(keeps(row, numbers), (numbers, rows))
            self.assertEqual(laid(numbers, row), numbers)

    def check_look(self, numbers, rows, row, wish):
        by_list, by_rows = looked(numbers, row, wish), rows_looked(rows, row, wish)
        self.assertEqual(by_list[:2], by_rows[:2], (numbers, rows, row, wish))
        nought = Fraction(*chance(numbers, row))
        self.assertEqual(Fraction(*by_rows[1]), nought if by_rows[0] == 0 else 1 - nought)
        self.seen[by_rows[:2]] = self.seen.get(by_rows[:2], 0) + 1
        return by_list[2], by_rows[2]

    def walk(self, numbers, rows, seed, many):
        self.check_state(numbers, rows)
        for kind, deed in deeds(len(rows), many, seed):
            if kind == "gate":
                numbers, rows = turned(numbers, deed), rows_turned(rows, deed)
            else:
                numbers, rows = self.check_look(numbers, rows, *deed)
            self.check_state(numbers, rows)

    def test_from_the_first_list_and_rows(self):
        for coins in COIN_COUNTS:
            for seed in range(4):
                self.walk(first_list(coins), first_rows(coins), seed, 80)
        self.assertEqual(set(self.seen), {(0, (1, 1)), (1, (1, 1)), (0, (1, 2)), (1, (1, 2))})
        self.assertGreater(min(self.seen.values()), 20, self.seen)

    def test_a_row_of_two_hundred_deeds(self):
        for coins in COIN_COUNTS:
            self.walk(first_list(coins), first_rows(coins), 50, 200)

    def test_from_any_rows(self):
        for coins in COIN_COUNTS:
            for seed in range(4):
                rows = free_rows(coins, coins, seed)
                self.walk(list_kept_by(rows), checked(rows), 20 + seed, 40)

    def test_looks_along_the_rows_themselves(self):
        for coins in COIN_COUNTS:
            rows = free_rows(coins, coins, 9)
            numbers = list_kept_by(rows)
            for row in rows:
                for sign, told in ((1, 0), (-1, 1)):
                    asked = (sign * row[0], row[1], row[2])
                    for wish in (0, 1):
                        self.assertEqual(looked(numbers, asked, wish), (told, (1, 1), numbers))
                        self.assertEqual(rows_looked(rows, asked, wish), (told, (1, 1), checked(rows)))

    def test_least_forms_are_alike_just_where_the_lists_are(self):
        for coins in (1, 2, 3):
            ends = []
            for seed in range(30):
                gates = [deed for kind, deed in deeds(coins, 12, seed) if kind == "gate"]
                rows = first_rows(coins)
                for gate in gates:
                    rows = rows_turned(rows, gate)
                ends.append((turned_by(first_list(coins), gates), rows))
            for one in ends:
                for other in ends:
                    self.assertEqual(one[0] == other[0], one[1] == other[1])

    def test_moved_one_by_one_or_all_together(self):
        for coins in COIN_COUNTS:
            rows, numbers = first_rows(coins), first_list(coins)
            alone = list(rows)
            for kind, gate in deeds(coins, 60, 5):
                if kind == "gate":
                    rows, numbers = rows_turned(rows, gate), turned(numbers, gate)
                    alone = [moved(row, gate) for row in alone]
                    self.assertEqual(checked(alone), rows)
                    self.assertEqual(numbers, plain_turned(turned(numbers, gate), gate))
                    self.assertEqual(least(numbers), list_kept_by(rows))
                    self.assertFalse([row for row in rows if no_letters(row)])


if __name__ == "__main__":
    unittest.main()
