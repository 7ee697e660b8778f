import unittest
from itertools import product

from tests.helpers import (COIN_COUNTS, Numbers, all_gates, all_tables_by_gates, lists_to_try, minus, no_gates,
                           plain_laid, plain_least, raw_turned_by, row_of_gates, unit_lists, whole_turning)
from turncoins.errors import NoGate
from turncoins.gates import turned_by
from turncoins.images import images, parting, start_list
from turncoins.rows import moved


def first_images(coins):
    return [(1, 2 ** coin, 0) for coin in range(coins)] + [(1, 0, 2 ** coin) for coin in range(coins)]


def all_starts(coins):
    return ["".join(signs) for signs in product("0+", repeat=coins)]


def alike_pairs(coins):
    """Two rows of gates each that do the same."""
    pairs = [([], [])]
    for c in range(coins):
        mix, flip, sign = ("mix", c), ("flip", c), ("sign", c)
        pairs += [([flip], [mix, sign, mix]), ([sign], [mix, flip, mix]), ([flip, sign], [sign, flip]),
                  ([mix, flip], [sign, mix])]
        for d in range(coins):
            if c != d:
                follow, back, meet, swap = ("follow", c, d), ("follow", d, c), ("meet", c, d), ("swap", c, d)
                pairs += [([swap], [follow, back, follow]), ([swap], [back, follow, back]), ([swap], [("swap", d, c)]),
                          ([meet], [("mix", d), follow, ("mix", d)]), ([meet], [mix, back, mix]),
                          ([meet], [("meet", d, c)]), ([follow], [("mix", d), meet, ("mix", d)]),
                          ([back], [mix, ("mix", d), follow, ("mix", d), mix]), ([mix, swap], [swap, ("mix", d)]),
                          ([flip, follow], [follow, flip, ("flip", d)]),
                          ([("sign", d), follow], [follow, sign, ("sign", d)])]
    for gate in all_gates(coins):
        pairs += [([gate, gate], []), ([gate] * 3, [gate])]
    return pairs


class Images(unittest.TestCase):
    def test_ordinary_gates(self):
        for coins, gates, wanted in (
                (1, [], [(1, 1, 0), (1, 0, 1)]),
                (1, [("mix", 0)], [(1, 0, 1), (1, 1, 0)]),
                (1, [("flip", 0)], [(1, 1, 0), (-1, 0, 1)]),
                (1, [("sign", 0)], [(-1, 1, 0), (1, 0, 1)]),
                (1, [("flip", 0), ("mix", 0)], [(1, 0, 1), (-1, 1, 0)]),
                (1, [("mix", 0), ("flip", 0)], [(-1, 0, 1), (1, 1, 0)]),
                (2, [("follow", 0, 1)], [(1, 3, 0), (1, 2, 0), (1, 0, 1), (1, 0, 3)]),
                (2, [("meet", 0, 1)], [(1, 1, 2), (1, 2, 1), (1, 0, 1), (1, 0, 2)]),
                (2, [("swap", 0, 1)], [(1, 2, 0), (1, 1, 0), (1, 0, 2), (1, 0, 1)]),
                (2, [("mix", 0), ("follow", 0, 1)], [(1, 0, 1), (1, 2, 0), (1, 3, 0), (1, 0, 3)]),
                (3, [("sign", 2)], [(1, 1, 0), (1, 2, 0), (-1, 4, 0), (1, 0, 1), (1, 0, 2), (1, 0, 4)])):
            with self.subTest(coins, gates=gates):
                self.assertEqual(images(coins, gates), wanted)

    def test_of_no_gates(self):
        for coins in COIN_COUNTS:
            self.assertEqual(images(coins, []), first_images(coins))

    def test_each_gate_alone(self):
        for coins in COIN_COUNTS:
            for gate in all_gates(coins):
                self.assertEqual(images(coins, [gate]), [moved(row, gate) for row in first_images(coins)])

    def test_moved_gate_by_gate(self):
        for coins in COIN_COUNTS:
            for seed in range(5):
                gates = row_of_gates(coins, 40, seed)
                wanted = first_images(coins)
                for at, gate in enumerate(gates):
                    self.assertEqual(images(coins, gates[:at]), wanted)
                    wanted = [moved(row, gate) for row in wanted]
                self.assertEqual(images(coins, gates), wanted)

    def test_laid_behind_the_gates_they_do_what_the_rows_do_ahead(self):
        for coins in (1, 2, 3, 4):
            for seed in range(3):
                gates = row_of_gates(coins, 15, seed)
                for row, image in zip(first_images(coins), images(coins, gates)):
                    for numbers in unit_lists(coins) + lists_to_try(coins)[-3:]:
                        self.assertEqual(plain_laid(raw_turned_by(numbers, gates), image),
                                         raw_turned_by(plain_laid(numbers, row), gates))

    def test_a_row_of_two_hundred(self):
        for coins in COIN_COUNTS:
            gates = row_of_gates(coins, 100, coins)
            self.assertEqual(images(coins, gates + gates[::-1]), first_images(coins))

    def test_the_same_of_rows_that_do_the_same(self):
        for coins in COIN_COUNTS:
            for one, other in alike_pairs(coins):
                self.assertEqual(images(coins, one), images(coins, other), (one, other))

    def test_alike_just_where_the_gates_do_the_same(self):
        seen = {True: 0, False: 0}
        for coins in (1, 2, 3):
            ends = []
            for seed in range(25):
                gates = row_of_gates(coins, 1 + seed % 7, seed)
                ends.append((images(coins, gates), whole_turning(coins, gates)))
            for one in ends:
                for other in ends:
                    self.assertEqual(one[0] == other[0], one[1] == other[1])
                    seen[one[0] == other[0]] += 1
        self.assertGreater(min(seen.values()), 100, seen)

    def test_kinds_of_what_is_told(self):
        for gates in ([], [("mix", 0)], [("follow", 0, 1), ("sign", 1)]):
            told = images(2, gates)
            self.assertEqual([told.__class__] + [row.__class__ for row in told], [list] + [tuple] * 4)
            self.assertEqual([part.__class__ for row in told for part in row], [int] * 12)


class StartList(unittest.TestCase):
    def test_ordinary_starts(self):
        for start, wanted in (
                ("0", [1, 0]), ("+", [1, 1]), ("00", [1, 0, 0, 0]), ("+0", [1, 1, 0, 0]), ("0+", [1, 0, 1, 0]),
                ("++", [1, 1, 1, 1]), ("0+0", [1, 0, 1, 0, 0, 0, 0, 0]), ("+0+", [1, 1, 0, 0, 1, 1, 0, 0])):
            with self.subTest(start):
                self.assertEqual(start_list(start), wanted)

    def test_each_start(self):
        for coins in COIN_COUNTS:
            for start in all_starts(coins):
                wanted = []
                for place in range(2 ** coins):
                    backs = [start[coin] for coin in range(coins) if place // 2 ** coin % 2 == 1]
                    wanted.append(0 if "0" in backs else 1)
                self.assertEqual(start_list(start), wanted)

    def test_made_of_the_first_list_by_mixes(self):
        for coins in COIN_COUNTS:
            for start in all_starts(coins):
                mixes = [("mix", coin) for coin in range(coins) if start[coin] == "+"]
                self.assertEqual(start_list(start), turned_by([1] + [0] * (2 ** coins - 1), mixes))


class Parting(unittest.TestCase):
    def check_parted(self, coins, one, other):
        """A start is told, and the lists behind the two rows of gates are no multiples of one another."""
        for first, then in ((one, other), (other, one)):
            start = parting(coins, first, then)
            self.assertIs(start.__class__, str, (coins, one, other))
            self.assertEqual((len(start), set(start) - {"0", "+"}), (coins, set()))
            numbers = start_list(start)
            self.assertNotEqual(plain_least(raw_turned_by(numbers, first)), plain_least(raw_turned_by(numbers, then)))
            self.assertNotEqual(turned_by(numbers, first), turned_by(numbers, then))

    def check_same(self, coins, one, other):
        self.assertIsNone(parting(coins, one, other), (coins, one, other))
        self.assertIsNone(parting(coins, other, one), (coins, one, other))

    def check(self, coins, one, other):
        """By what both do to each list with a single 1; tells whether they do the same."""
        same = whole_turning(coins, one) == whole_turning(coins, other)
        self.assertEqual(images(coins, one) == images(coins, other), same)
        if same:
            self.check_same(coins, one, other)
        else:
            self.check_parted(coins, one, other)
        return same

    def test_ordinary_gates(self):
        for coins, one, other, starts in (
                (1, [("flip", 0)], [], ["0"]),
                (1, [("sign", 0)], [], ["+"]),
                (1, [("mix", 0)], [], ["0", "+"]),
                (1, [("flip", 0)], [("sign", 0)], ["0", "+"]),
                (2, [("follow", 0, 1)], [], ["+0"]),
                (2, [("meet", 0, 1)], [], ["++"]),
                (2, [("swap", 0, 1)], [], ["0+", "+0"]),
                (2, [("follow", 0, 1)], [("follow", 1, 0)], ["0+", "+0"])):
            with self.subTest(one, other=other):
                self.assertIn(parting(coins, one, other), starts)
                self.assertIn(parting(coins, other, one), starts)

    def test_rows_that_do_the_same(self):
        for coins in COIN_COUNTS:
            for one, other in alike_pairs(coins)[::1 if coins < 5 else 7]:
                self.check_same(coins, one, other)

    def test_rows_that_do_the_same_among_others(self):
        for coins in COIN_COUNTS:
            pairs = alike_pairs(coins)
            for seed in range(8):
                one, other = pairs[Numbers(seed).below(len(pairs))]
                ahead, behind = row_of_gates(coins, 9, seed), row_of_gates(coins, 9, seed + 50)
                self.check_same(coins, ahead + one + behind, ahead + other + behind)
                self.check_same(coins, ahead + behind + behind[::-1], ahead)

    def test_each_gate_and_none(self):
        for coins in COIN_COUNTS:
            for gate in all_gates(coins):
                self.check_parted(coins, [gate], [])

    def test_each_two_gates(self):
        seen = {True: 0, False: 0}
        for coins in (1, 2, 3):
            for one in all_gates(coins):
                for other in all_gates(coins):
                    seen[self.check(coins, [one], [other])] += 1
        # Each gate and itself, and meets and swaps the other way round.
        self.assertEqual(seen[True], 3 + (12 + 4) + (27 + 12), seen)

    def test_all_that_gates_do_to_one_and_two_coins(self):
        for coins, many in ((1, 8), (2, 1152)):
            rows = list(all_tables_by_gates(coins, images).values())
            self.assertEqual((len(rows), rows[0]), (many, []))
            for gates in rows[1:]:
                self.check_parted(coins, gates, [])
                self.check_same(coins, gates + gates[::-1], [])

    def test_drawn_rows(self):
        seen = {True: 0, False: 0}
        for coins in (1, 2, 3, 4):
            for seed in range(12):
                one = row_of_gates(coins, 1 + seed, seed)
                for other in (row_of_gates(coins, 6, seed + 90), one[1:], one[:-1], one[::-1], one + one[:1]):
                    seen[self.check(coins, one, other)] += 1
        self.assertGreater(min(seen.values()), 5, seen)

    def test_drawn_rows_of_many_coins(self):
        for coins in (5, 6):
            for seed in range(12):
                one, other = row_of_gates(coins, 30, seed), row_of_gates(coins, 30, seed + 40)
                self.assertNotEqual(images(coins, one), images(coins, other))
                self.check_parted(coins, one, other)
                at = Numbers(seed).below(30)
                self.check_parted(coins, one, one[:at] + one[at + 1:])

    def test_images_that_differ_in_signs_alone(self):
        for coins in COIN_COUNTS:
            for seed in range(6):
                numbers = Numbers(seed)
                one = row_of_gates(coins, 20, seed)
                wrong = [(word, coin) for word in ("flip", "sign") for coin in range(coins) if numbers.below(2)]
                at = numbers.below(20)
                other = one[:at] + (wrong or [("flip", 0)]) + one[at:]
                for mine, its in zip(images(coins, one), images(coins, other)):
                    self.assertIn(its, (mine, minus(mine)))
                self.check_parted(coins, one, other)

    def test_images_that_differ_in_one_row_alone(self):
        for coins in (2, 3, 4, 5, 6):
            for one in range(coins):
                self.check_parted(coins, [("flip", one)], [])
                self.check_parted(coins, [("sign", one)], [])
                for other in range(coins):
                    if one != other:
                        self.check_parted(coins, [("meet", one, other)], [])
                        self.check_parted(coins, [("follow", one, other)], [("follow", one, other), ("sign", other)])

    def test_long_rows(self):
        for coins in (1, 3, 6):
            gates = row_of_gates(coins, 100, 5)
            self.check_same(coins, gates + gates[::-1], [])
            self.check_parted(coins, gates + gates[::-1][:-1], [])


class NoGates(unittest.TestCase):
    def refused_at(self, way, *handed_in):
        with self.assertRaises(NoGate) as taken:
            way(*handed_in)
        self.assertIs(taken.exception.at.__class__, int)
        return taken.exception.at

    def test_its_number_is_told(self):
        for coins in COIN_COUNTS:
            good = all_gates(coins)[:3]
            for gate in no_gates(coins):
                for at in (0, 1, 3):
                    gates = good[:at] + [gate] + good[at:]
                    self.assertEqual(self.refused_at(images, coins, gates), at)
                    self.assertEqual(self.refused_at(parting, coins, gates, good), at)
                    self.assertEqual(self.refused_at(parting, coins, good, gates), at)

    def test_the_first_of_several_is_told(self):
        good = ("flip", 0)
        for bad in (("mix", 2), ("swap", 1, 1), ("turn", 0), (), (None,), ([], 0), ("flip", True)):
            gates = [good, good, bad, good, ("mix", -1), bad]
            self.assertEqual(self.refused_at(images, 2, gates), 2)
            self.assertEqual(self.refused_at(parting, 2, gates, []), 2)
            self.assertEqual(self.refused_at(parting, 2, [], gates), 2)

    def test_those_of_the_one_ahead_of_those_of_the_other(self):
        good = ("mix", 0)
        for bad in (("mix", 2), ("swap", 1, 1), ("turn", 0), (), ([], 0)):
            for beside in (("mix", 3), ("meet", 0), (None, 0)):
                for at in range(4):
                    for behind in range(4):
                        one = [good] * at + [bad]
                        other = [good] * behind + [beside]
                        self.assertEqual(self.refused_at(parting, 2, one, other), at)

    def test_the_coins_handed_in_count(self):
        for coins in COIN_COUNTS:
            for gate in all_gates(6):
                if max(gate[1:]) < coins:
                    self.assertEqual(len(images(coins, [gate])), 2 * coins)
                    self.assertIsNone(parting(coins, [gate], [gate]))
                else:
                    self.assertEqual(self.refused_at(images, coins, [("flip", 0), gate]), 1)
                    self.assertEqual(self.refused_at(parting, coins, [gate], [gate]), 0)
                    self.assertEqual(self.refused_at(parting, coins, [], [("mix", 0), ("mix", 0), gate]), 2)

    def test_at_the_end_of_a_long_row(self):
        gates = row_of_gates(6, 199, 4) + [("mix", 6)]
        self.assertEqual(self.refused_at(images, 6, gates), 199)
        self.assertEqual(self.refused_at(parting, 6, gates, gates), 199)

    def test_refused_also_where_both_are_alike(self):
        self.assertEqual(self.refused_at(parting, 1, [("mix", 1)], [("mix", 1)]), 0)


class AskersOwn(unittest.TestCase):
    def test_what_is_handed_in_stays(self):
        for coins in COIN_COUNTS:
            one, other = row_of_gates(coins, 8, 1), row_of_gates(coins, 8, 2)
            kept = (list(one), list(other))
            images(coins, one)
            parting(coins, one, other)
            parting(coins, one, one)
            with self.assertRaises(NoGate):
                parting(coins, one, other + [("mix", coins)])
            self.assertEqual((one, other), kept)

    def test_a_changed_told_list_changes_nothing_else(self):
        for coins in COIN_COUNTS:
            gates = row_of_gates(coins, 8, 3)
            kept = list(gates)
            for ask in (lambda: images(coins, gates), lambda: images(coins, []), lambda: start_list("0" * coins),
                        lambda: start_list("+" * coins)):
                told, beside = ask(), ask()
                wanted = list(beside)
                told[0] = 77
                told.append(78)
                self.assertEqual((beside, ask(), gates), (wanted, wanted, kept))
            self.assertIsNone(parting(coins, gates, gates))

    def test_a_change_of_what_was_handed_in_changes_nothing_told(self):
        gates = [("flip", 0)]
        told = [images(1, gates), parting(1, gates, [])]
        gates.append(("mix", 0))
        self.assertEqual(told, [[(1, 1, 0), (-1, 0, 1)], "0"])


if __name__ == "__main__":
    unittest.main()
