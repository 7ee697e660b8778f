"""Lists and rows beside one another: whatever gates and looks come, both tell the same."""

import unittest
from fractions import Fraction

from tests.helpers import (COIN_COUNTS, deeds, free_rows, is_least_form, keeps, list_kept_by, lists_to_try, no_letters,
                           plain_least, plain_turned, row_of_gates)
from turncoins.bridges import list_of, overlap, rows_of, rows_overlap
from turncoins.gates import turned, turned_by
from turncoins.images import images, parting, start_list
from turncoins.lists import first_list, least
from turncoins.looks import chance, looked
from turncoins.making import gates_of
from turncoins.rows import laid, moved
from turncoins.shorts import checked, first_rows, rows_looked, rows_turned


class BesideOneAnother(unittest.TestCase):
    def setUp(self):
        self.seen = {}

    def check_state(self, numbers, rows):
        self.assertEqual(numbers, plain_least(numbers))
        self.assertTrue(is_least_form(rows, len(rows)))
        for row in rows:
            self.assertTrue(keeps(row, numbers), (numbers, rows))
            self.assertEqual(laid(numbers, row), numbers)
        self.assertEqual((list_of(rows), rows_of(numbers)), (numbers, rows))

    def check_look(self, numbers, rows, row, wish):
        by_list, by_rows = looked(numbers, row, wish), rows_looked(rows, row, wish)
        self.assertEqual(by_list[:2], by_rows[:2], (numbers, rows, row, wish))
        nought = Fraction(*chance(numbers, row))
        self.assertEqual(Fraction(*by_rows[1]), nought if by_rows[0] == 0 else 1 - nought)
        self.seen[by_rows[:2]] = self.seen.get(by_rows[:2], 0) + 1
        return by_list[2], by_rows[2]

    def walk(self, numbers, rows, seed, many):
        self.check_state(numbers, rows)
        for kind, deed in deeds(len(rows), many, seed):
            if kind == "gate":
                numbers, rows = turned(numbers, deed), rows_turned(rows, deed)
            else:
                numbers, rows = self.check_look(numbers, rows, *deed)
            self.check_state(numbers, rows)

    def test_from_the_first_list_and_rows(self):
        for coins in COIN_COUNTS:
            for seed in range(4):
                self.walk(first_list(coins), first_rows(coins), seed, 80)
        self.assertEqual(set(self.seen), {(0, (1, 1)), (1, (1, 1)), (0, (1, 2)), (1, (1, 2))})
        self.assertGreater(min(self.seen.values()), 20, self.seen)

    def test_a_row_of_two_hundred_deeds(self):
        for coins in COIN_COUNTS:
            self.walk(first_list(coins), first_rows(coins), 50, 200)

    def test_from_any_rows(self):
        for coins in COIN_COUNTS:
            for seed in range(4):
                rows = free_rows(coins, coins, seed)
                self.walk(list_kept_by(rows), checked(rows), 20 + seed, 40)

    def test_looks_along_the_rows_themselves(self):
        for coins in COIN_COUNTS:
            rows = free_rows(coins, coins, 9)
            numbers = list_kept_by(rows)
            for row in rows:
                for sign, told in ((1, 0), (-1, 1)):
                    asked = (sign * row[0], row[1], row[2])
                    for wish in (0, 1):
                        self.assertEqual(looked(numbers, asked, wish), (told, (1, 1), numbers))
                        self.assertEqual(rows_looked(rows, asked, wish), (told, (1, 1), checked(rows)))

    def test_least_forms_are_alike_just_where_the_lists_are(self):
        for coins in (1, 2, 3):
            ends = []
            for seed in range(30):
                gates = [deed for kind, deed in deeds(coins, 12, seed) if kind == "gate"]
                rows = first_rows(coins)
                for gate in gates:
                    rows = rows_turned(rows, gate)
                ends.append((turned_by(first_list(coins), gates), rows))
            for one in ends:
                for other in ends:
                    self.assertEqual(one[0] == other[0], one[1] == other[1])
                    self.assertEqual(overlap(one[0], other[0]), rows_overlap(one[1], other[1]))
                    self.assertEqual(overlap(one[0], other[0]) == (1, 1), one[0] == other[0])

    def test_gates_do_the_same_just_where_they_move_the_same_rows_to_the_same(self):
        for coins in COIN_COUNTS:
            rows = [row_of_gates(coins, 3 + seed, seed) for seed in range(6)]
            rows += [gates_of(images(coins, gates)) for gates in rows] + [[]]
            for one in rows:
                for other in rows:
                    start = parting(coins, one, other)
                    moved_alike = images(coins, one) == images(coins, other)
                    self.assertEqual(start is None, moved_alike)
                    if moved_alike:
                        for numbers in lists_to_try(coins)[4:8]:
                            self.assertEqual(turned_by(numbers, one), turned_by(numbers, other))
                    else:
                        ends = [turned_by(start_list(start), gates) for gates in (one, other)]
                        self.assertNotEqual(ends[0], ends[1])
                        self.assertNotEqual(overlap(ends[0], ends[1]), (1, 1))

    def test_moved_one_by_one_or_all_together(self):
        for coins in COIN_COUNTS:
            rows, numbers = first_rows(coins), first_list(coins)
            alone = list(rows)
            for kind, gate in deeds(coins, 60, 5):
                if kind == "gate":
                    rows, numbers = rows_turned(rows, gate), turned(numbers, gate)
                    alone = [moved(row, gate) for row in alone]
                    self.assertEqual(checked(alone), rows)
                    self.assertEqual(numbers, plain_turned(turned(numbers, gate), gate))
                    self.assertEqual(least(numbers), list_kept_by(rows))
                    self.assertFalse([row for row in rows if no_letters(row)])


if __name__ == "__main__":
    unittest.main()
