import unittest

from tests.helpers import (COIN_COUNTS, GREAT, WRONG_LENGTHS, all_gates, lists_to_try, no_gates, plain_least,
                           plain_overlap, plain_turned, row_of_gates)
from turncoins.errors import NoGate, NoList
from turncoins.gates import turned, turned_by
from turncoins.lists import first_list, least


class Turned(unittest.TestCase):
    def test_one_coin(self):
        for numbers, gate, wanted in (
                ([3, 5], ("mix", 0), [4, -1]),
                ([1, 0], ("mix", 0), [1, 1]),
                ([0, 1], ("mix", 0), [1, -1]),
                ([1, 1], ("mix", 0), [1, 0]),
                ([1, -1], ("mix", 0), [0, 1]),
                ([1, 2], ("mix", 0), [3, -1]),
                ([3, 5], ("flip", 0), [5, 3]),
                ([-3, 5], ("flip", 0), [5, -3]),
                ([3, -5], ("flip", 0), [5, -3]),
                ([3, 5], ("sign", 0), [3, -5]),
                ([0, 5], ("sign", 0), [0, 1])):
            with self.subTest(numbers, gate=gate):
                self.assertEqual(turned(numbers, gate), wanted)

    def test_two_coins(self):
        # Place 1 has coin 0 alone on its back, place 2 coin 1 alone, place 3 both.
        numbers = [2, 3, 5, 7]
        for gate, wanted in (
                (("mix", 0), [5, -1, 12, -2]),
                (("mix", 1), [7, 10, -3, -4]),
                (("flip", 0), [3, 2, 7, 5]),
                (("flip", 1), [5, 7, 2, 3]),
                (("sign", 0), [2, -3, 5, -7]),
                (("sign", 1), [2, 3, -5, -7]),
                (("follow", 0, 1), [2, 7, 5, 3]),
                (("follow", 1, 0), [2, 3, 7, 5]),
                (("meet", 0, 1), [2, 3, 5, -7]),
                (("meet", 1, 0), [2, 3, 5, -7]),
                (("swap", 0, 1), [2, 5, 3, 7]),
                (("swap", 1, 0), [2, 5, 3, 7])):
            with self.subTest(gate):
                self.assertEqual(turned(numbers, gate), wanted)

    def test_three_coins(self):
        numbers = [1, 2, 3, 4, 5, 6, 7, 8]
        self.assertEqual(turned(numbers, ("follow", 0, 2)), [1, 6, 3, 8, 5, 2, 7, 4])
        self.assertEqual(turned(numbers, ("follow", 2, 0)), [1, 2, 3, 4, 6, 5, 8, 7])
        self.assertEqual(turned(numbers, ("meet", 1, 2)), [1, 2, 3, 4, 5, 6, -7, -8])
        self.assertEqual(turned(numbers, ("swap", 0, 2)), [1, 5, 3, 7, 2, 6, 4, 8])

    def test_each_gate_at_each_coin_against_its_words(self):
        for coins in COIN_COUNTS:
            for numbers in lists_to_try(coins):
                for gate in all_gates(coins):
                    self.assertEqual(turned(numbers, gate), plain_turned(numbers, gate), (numbers, gate))

    def test_told_in_least_form(self):
        for coins in COIN_COUNTS:
            for numbers in lists_to_try(coins):
                for gate in all_gates(coins):
                    told = turned(numbers, gate)
                    self.assertEqual(told, plain_least(told))
                    self.assertIs(told.__class__, list)

    def test_twice_is_as_it_was(self):
        for coins in COIN_COUNTS:
            for numbers in lists_to_try(coins):
                for gate in all_gates(coins):
                    self.assertEqual(turned(turned(least(numbers), gate), gate), least(numbers), (numbers, gate))
                    self.assertEqual(turned_by(numbers, [gate, gate]), least(numbers), (numbers, gate))


class TurnedBy(unittest.TestCase):
    def test_no_gates_tell_the_least_form(self):
        self.assertEqual(turned_by([-2, 4], []), [1, -2])
        for coins in COIN_COUNTS:
            for numbers in lists_to_try(coins):
                self.assertEqual(turned_by(numbers, []), plain_least(numbers))

    def test_ordinary_rows(self):
        self.assertEqual(turned_by([1, 0, 0, 0], [("mix", 0), ("follow", 0, 1)]), [1, 0, 0, 1])
        self.assertEqual(turned_by([1, 0, 0, 0], [("follow", 0, 1), ("mix", 0)]), [1, 1, 0, 0])
        self.assertEqual(turned_by([1, 0], [("flip", 0), ("mix", 0)]), [1, -1])
        self.assertEqual(turned_by([1, 0], [("mix", 0), ("flip", 0)]), [1, 1])

    def test_rows_against_the_gates_one_by_one(self):
        for coins in COIN_COUNTS:
            for seed, numbers in enumerate(lists_to_try(coins)):
                gates = row_of_gates(coins, 12, seed)
                coming, wanted = numbers, numbers
                for gate in gates:
                    coming = turned(coming, gate)
                    wanted = plain_turned(wanted, gate)
                self.assertEqual(turned_by(numbers, gates), coming, (numbers, gates))
                self.assertEqual(coming, wanted, (numbers, gates))

    def test_one_gate_in_a_row(self):
        for coins in COIN_COUNTS:
            for gate in all_gates(coins):
                numbers = lists_to_try(coins)[-1]
                self.assertEqual(turned_by(numbers, [gate]), plain_turned(numbers, gate))

    def test_a_row_and_then_the_same_from_its_end(self):
        for coins in COIN_COUNTS:
            for seed, numbers in enumerate(lists_to_try(coins)):
                gates = row_of_gates(coins, 30, seed)
                self.assertEqual(turned_by(turned_by(numbers, gates), gates[::-1]), least(numbers))
                self.assertEqual(turned_by(numbers, gates + gates[::-1]), least(numbers))

    def test_a_row_of_two_hundred(self):
        for coins in COIN_COUNTS:
            gates = row_of_gates(coins, 100, coins)
            self.assertEqual(turned_by(first_list(coins), gates + gates[::-1]), first_list(coins))

    def test_told_lists_beyond_the_great_numbers(self):
        numbers = [GREAT - place for place in range(64)]
        gates = [("mix", coin) for coin in range(6)]
        told = turned_by(numbers, gates)
        self.assertGreater(max(told), GREAT)
        self.assertEqual(turned_by(told, gates), least(numbers))

    def test_a_row_keeps_the_overlap_of_two_lists(self):
        for coins in COIN_COUNTS:
            for seed, (one, other) in enumerate(zip(lists_to_try(coins), lists_to_try(coins, 1)[::-1])):
                gates = row_of_gates(coins, 15, seed)
                self.assertEqual(plain_overlap(turned_by(one, gates), turned_by(other, gates)),
                                 plain_overlap(one, other))


class NoGates(unittest.TestCase):
    def refused_at(self, numbers, gates):
        with self.assertRaises(NoGate) as taken:
            turned_by(numbers, gates)
        return taken.exception.at

    def test_one_alone_is_refused_with_at_0(self):
        for coins in COIN_COUNTS:
            for gate in no_gates(coins):
                with self.subTest(coins, word=gate[:1].__class__, parts=len(gate)):
                    with self.assertRaises(NoGate) as taken:
                        turned(first_list(coins), gate)
                    self.assertEqual(taken.exception.at, 0)

    def test_in_a_row_its_number_is_told(self):
        for coins in COIN_COUNTS:
            good = all_gates(coins)[:3]
            for gate in no_gates(coins):
                for at in range(4):
                    self.assertEqual(self.refused_at(first_list(coins), good[:at] + [gate] + good[at:]), at)

    def test_the_first_of_several_is_told(self):
        good = ("flip", 0)
        for bad in (("mix", 2), ("swap", 1, 1), ("turn", 0), (), (None,), ([], 0)):
            for other in (("mix", -1), ("meet", 0), (["mix"], 0)):
                self.assertEqual(self.refused_at([1, 2, 3, 4], [bad, other]), 0)
                self.assertEqual(self.refused_at([1, 2, 3, 4], [good, bad, good, other]), 1)
                self.assertEqual(self.refused_at([1, 2, 3, 4], [good, good, other, bad, bad]), 2)

    def test_at_the_end_of_a_long_row(self):
        gates = row_of_gates(6, 199, 4)
        self.assertEqual(self.refused_at(first_list(6), gates + [("mix", 6)]), 199)

    def test_the_lists_own_coins_count(self):
        for coins in COIN_COUNTS:
            for gate in all_gates(6):
                if max(gate[1:]) < coins:
                    turned(first_list(coins), gate)
                else:
                    self.assertEqual(self.refused_at(first_list(coins), [gate]), 0)

    def test_at_is_a_whole_number_of_each_refusal(self):
        with self.assertRaises(NoGate) as one:
            turned_by([1, 0], [("flip", 0), ("flip", 1)])
        with self.assertRaises(NoGate) as other:
            turned([1, 0], ("flip", 1))
        self.assertEqual((one.exception.at, other.exception.at), (1, 0))
        self.assertIs(other.exception.at.__class__, int)


class NoLists(unittest.TestCase):
    def refused(self, numbers):
        for gate in (("flip", 0), ("mix", 9), ("turn",), (), ([], 0), ("swap", 0, 0), ("flip", True)):
            with self.subTest(length=len(numbers), gate=gate):
                with self.assertRaises(NoList):
                    turned(numbers, gate)
                with self.assertRaises(NoList):
                    turned_by(numbers, [gate])
                with self.assertRaises(NoList):
                    turned_by(numbers, [("flip", 0), gate])
        with self.assertRaises(NoList):
            turned_by(numbers, [])

    def test_noughts_alone_ahead_of_any_gate(self):
        for coins in COIN_COUNTS:
            self.refused([0] * 2 ** coins)

    def test_other_lengths_ahead_of_any_gate(self):
        for length in WRONG_LENGTHS:
            self.refused([1] * length)
            self.refused([0] * length)


class AskersOwn(unittest.TestCase):
    def test_what_is_handed_in_stays(self):
        for coins in COIN_COUNTS:
            for seed, numbers in enumerate(lists_to_try(coins)):
                gates = row_of_gates(coins, 5, seed)
                kept = (list(numbers), list(gates))
                turned_by(numbers, gates)
                turned_by(numbers, [])
                turned(numbers, gates[0])
                self.assertEqual((numbers, gates), kept)

    def test_what_is_handed_in_stays_where_it_is_refused(self):
        numbers, gates = [2, 4], [("mix", 0), ("flip", 0), ("mix", 1)]
        with self.assertRaises(NoGate):
            turned_by(numbers, gates)
        self.assertEqual((numbers, gates), ([2, 4], [("mix", 0), ("flip", 0), ("mix", 1)]))

    def test_a_changed_told_list_changes_nothing_told_later(self):
        for coins in COIN_COUNTS:
            numbers = first_list(coins)
            for ask in (lambda: turned(numbers, ("flip", 0)), lambda: turned_by(numbers, []),
                        lambda: turned_by(numbers, [("sign", 0)]), lambda: turned_by(numbers, [("mix", 0)])):
                told = ask()
                wanted = list(told)
                told[0] = 77
                told.append(78)
                self.assertEqual(ask(), wanted)
                self.assertEqual(numbers, first_list(coins))

    def test_a_change_of_what_was_handed_in_changes_nothing_told(self):
        numbers, gates = [1, 2], [("flip", 0)]
        told, same = turned_by(numbers, gates), turned_by(numbers, [])
        numbers[0] = 5
        gates.append(("mix", 0))
        self.assertEqual((told, same), ([2, 1], [1, 2]))


if __name__ == "__main__":
    unittest.main()
