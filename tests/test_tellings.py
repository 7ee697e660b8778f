import copy
import unittest

from tests.helpers import COIN_COUNTS, PlainCoins, deeds, no_gates, row_of_gates
from turncoins.errors import NoGate, NoLook
from turncoins.tellings import (chance_by, coins_told, first_telling, is_way, list_by, overlap_by, rows_by,
                                telling_looked, telling_turned, ties_by)

WAYS = ("long", "short")


class BothWays(unittest.TestCase):
    def alike(self, ask):
        told = [ask(telling) for telling in self.tellings]
        self.assertEqual(told[0], told[1])
        return told[0]

    def test_ways(self):
        self.assertEqual([is_way(word) for word in ("long", "short", "", "lo", "Long", "long ", "longshort")],
                         [True, True] + [False] * 5)

    def test_drawn_deeds(self):
        for coins in COIN_COUNTS:
            self.tellings = [first_telling(coins, way) for way in WAYS]
            plain = PlainCoins(coins)
            for kind, deed in deeds(coins, 40, 30):
                if kind == "gate":
                    self.tellings = [telling_turned(telling, [deed]) for telling in self.tellings]
                    plain.turn([deed])
                else:
                    row, wish = deed
                    top, bottom = self.alike(lambda telling: chance_by(telling, row))
                    self.assertEqual((top, bottom), plain.chance(row).as_integer_ratio())
                    told = [telling_looked(telling, row, wish) for telling in self.tellings]
                    self.assertEqual(told[0][:2], told[1][:2])
                    said, likely = plain.look(row, wish)
                    self.assertEqual(told[0][:2], (said, likely.as_integer_ratio()))
                    self.tellings = [look[2] for look in told]
                self.assertEqual(self.alike(list_by), plain.numbers)
                self.assertEqual(self.alike(coins_told), coins)
                self.assertEqual(self.alike(lambda telling: ties_by(telling, 1)), plain.ties(1))
                self.alike(rows_by)
                for one in self.tellings:
                    for other in self.tellings:
                        self.assertEqual(overlap_by(one, other), (1, 1))

    def test_what_is_handed_in_stays(self):
        for way in WAYS:
            telling = telling_turned(first_telling(3, way), row_of_gates(3, 9, 4))
            kept = copy.deepcopy(telling)
            gates = [("mix", 0), ("flip", 1)]
            turned = telling_turned(telling, gates)
            told = [telling_turned(telling, []), telling_looked(telling, (1, 1, 0), 1), list_by(telling),
                    rows_by(telling), chance_by(telling, (1, 0, 1)), ties_by(telling, 2), overlap_by(telling, turned)]
            told[0][1].clear()
            told[1][2][1].clear()
            told[2].clear()
            told[3].clear()
            self.assertEqual((telling, gates), (kept, [("mix", 0), ("flip", 1)]))

    def test_refusals(self):
        for way in WAYS:
            for coins in (1, 3):
                telling = first_telling(coins, way)
                for gate in no_gates(coins):
                    with self.assertRaises(NoGate) as taken:
                        telling_turned(telling, [("flip", 0), ("mix", 0), gate])
                    self.assertEqual(taken.exception.at, 2)
                for row in ((1, 1, 1), (0, 0, 0), (1, 2 ** coins, 0), (1, 0, -1)):
                    for ask in (lambda: telling_looked(telling, row, 0), lambda: chance_by(telling, row)):
                        with self.assertRaises(NoLook):
                            ask()


if __name__ == "__main__":
    unittest.main()
