import re
import unittest
from itertools import product

from tests.helpers import (ALL_SIGNS, COIN_COUNTS, ONE_COIN_WORDS, TWO_COIN_WORDS, Numbers, all_gates, all_rows,
                           any_row, gates_text, row_from, row_of_gates, row_text, rows_to_try,
                           with_one_sign_otherwise)
from turncoins.errors import NoText
from turncoins.texts import read_gates, read_row, show_gates, show_row

GATE = "(?:(?:mix|flip|sign) [0-9]|(?:follow|meet|swap) [0-9] [0-9])"
GATES = re.compile(f"(?:{GATE}(?:; {GATE})*)?")
ROW = re.compile("[+-][.xyz]{1,6}")
NO_GATES = (
    " ", "  ", "\n", ";", "; ", " ; ", "; ; ", "mix", "mix ", " mix", "mix 0 ", " mix 0", "mix  0", "mix 0  ",
    "mix 0\n", "\nmix 0", "mix\n0", "mix 0;", "mix 0; ", "; mix 0", " ; mix 0", "mix 0;flip 1", "mix 0 ;flip 1",
    "mix 0 ; flip 1", "mix 0;  flip 1", "mix 0;; flip 1", "mix 0; ; flip 1", "mix 0;\nflip 1", "mix 0\nflip 1",
    "mix 0, flip 1", "mix 0 flip 1", "mix 0: flip 1", "mix 0; flip 1;", "mix 0; flip 1; ", "mix 0; flip 1\n", "Mix 0",
    "MIX 0", "miX 0", "mixed 0", "mi 0", "turn 0", "look 0", "0", "0 mix", "mix mix", "mix c", "mix x", "mix -1",
    "mix +1", "mix -0", "mix 00", "mix 01", "mix 10", "mix 12", "mix 0.", "mix 1.0", "mix 0x1", "mix 1_0", "mix 1e0",
    "mix ''", "mix '0'", "mix 0 1", "mix 0 0", "mix 0 1 2", "flip", "flip 0 1", "sign", "sign 0 1", "follow",
    "follow 0", "follow 0 ", "follow  0", "follow  0 1", "follow 0  1", "follow 0 1 ", "follow 0 1 2", "follow 01",
    "follow 0,1", "follow 0 01", "follow 00 1", "follow 0 10", "follow 0 1\n", "follow 0\n1", "meet 0", "meet 0 1 2",
    "swap 0", "swap 0 1 2", "swap 0; 1", "swap 0;1", "swap; 0 1", "follow 0 -1", "follow a b", "(mix, 0)",
    "('mix', 0)", "[]", "none", "mix\t0")
NO_ROWS = (
    "", " ", "\n", "+", "-", "++", "--", "+-", "x", ".", "x+", "xx", ".x", "*x", "0x", "1x", "+ x", " +x", "+x ",
    "+x\n", "\n+x", "+\nx", "-x\n", "+X", "+Y", "+Z", "+xX", "-Z.", "+a", "+i", "+1", "+0", "+-x", "+x-", "+x+",
    "-x y", "+x,z", "+_", "+,", "+x.z!", "+.......", "-xyz.xyz", "+xxxxxxx", "+xxxxxxxx", "-" + "." * 12, "+x.z.y.\n",
    "(1, 1, 0)", "=x", "\t+x", "+x\t")


class ShownGates(unittest.TestCase):
    def test_ordinary_gates(self):
        for gates, wanted in (
                ([], ""), ([("mix", 0)], "mix 0"), ([("follow", 0, 2)], "follow 0 2"),
                ([("mix", 0), ("follow", 0, 1)], "mix 0; follow 0 1"),
                ([("swap", 5, 4), ("flip", 3), ("meet", 1, 0), ("sign", 2)], "swap 5 4; flip 3; meet 1 0; sign 2"),
                ([("mix", 0)] * 3, "mix 0; mix 0; mix 0")):
            self.assertEqual(show_gates(gates), wanted)
            self.assertEqual(read_gates(wanted), gates)

    def test_written_and_read_back(self):
        for coins in COIN_COUNTS:
            for many in range(41):
                gates = row_of_gates(coins, many, many)
                text = show_gates(gates)
                self.assertEqual(text, gates_text(gates))
                self.assertIsNotNone(GATES.fullmatch(text))
                self.assertEqual(read_gates(text), gates)

    def test_each_gate_alone(self):
        for gate in all_gates(6):
            self.assertEqual(show_gates([gate]), " ".join(str(part) for part in gate))
            self.assertEqual(read_gates(show_gates([gate])), [gate])


class ReadGates(unittest.TestCase):
    def test_coins_need_not_be_there_or_unlike(self):
        for word in ONE_COIN_WORDS:
            for coin in range(10):
                self.assertEqual(read_gates(f"{word} {coin}"), [(word, coin)])
        for word in TWO_COIN_WORDS:
            for one, other in product(range(10), repeat=2):
                self.assertEqual(read_gates(f"{word} {one} {other}"), [(word, one, other)])

    def test_kinds_of_what_is_told(self):
        told = read_gates("mix 9; swap 7 7")
        self.assertEqual([told.__class__] + [gate.__class__ for gate in told], [list, tuple, tuple])
        self.assertEqual([part.__class__ for gate in told for part in gate], [str, int, str, int, int])

    def test_other_texts(self):
        for text in NO_GATES:
            self.assertIsNone(GATES.fullmatch(text), text)
            with self.subTest(text), self.assertRaises(NoText) as taken:
                read_gates(text)
            self.assertIs(taken.exception.__class__, NoText)

    def test_a_wrong_gate_at_any_place(self):
        for coins in (1, 3, 6):
            for many in (0, 1, 4, 12):
                good = [gates_text([gate]) for gate in row_of_gates(coins, many, many)]
                for at in range(many + 1):
                    for wrong in ("", "mix", "mix 10", "mix 0 1", "swap 0", "turn 0", "mix 0 ", " mix 0", "mix 0\n"):
                        text = "; ".join(good[:at] + [wrong] + good[at:])
                        if text:
                            with self.subTest(text), self.assertRaises(NoText):
                                read_gates(text)

    def check(self, text):
        """A text is read just where its form, told another way, is that of gates."""
        if GATES.fullmatch(text):
            told = read_gates(text)
            self.assertEqual(gates_text(told), text)
            self.assertEqual(show_gates(told), text)
            return True
        with self.subTest(text), self.assertRaises(NoText):
            read_gates(text)
        return False

    def test_one_sign_otherwise_at_any_place(self):
        seen = {True: 0, False: 0}
        for text in ("", "mix 0", "sign 5", "follow 0 2", "swap 1 0", "mix 0; follow 0 1", "meet 2 1; flip 3; sign 0"):
            for other in with_one_sign_otherwise(text):
                seen[self.check(other)] += 1
        self.assertGreater(min(seen.values()), 50, seen)

    def test_one_sign_otherwise_in_long_rows_of_gates(self):
        for coins in (2, 6):
            for many in (15, 40):
                text = gates_text(row_of_gates(coins, many, 3))
                for other in with_one_sign_otherwise(text, " ;0\nx")[::7]:
                    self.check(other)

    def test_signs_drawn_together(self):
        numbers = Numbers(5)
        pieces = ("mix", "swap", "follow", "flip", " ", " ", "; ", ";", "0", "1", "9", "10", "\n", "", "-", "; mix 1")
        for times in range(4000):
            self.check("".join(numbers.choice(pieces) for piece in range(1 + numbers.below(8))))

    def test_the_word_of_one_with_the_coins_of_another(self):
        for word in ONE_COIN_WORDS + TWO_COIN_WORDS:
            for many in range(5):
                self.check(" ".join([word] + [str(coin) for coin in range(many)]))


class ShownRows(unittest.TestCase):
    def test_ordinary_rows(self):
        for row, coins, wanted in (
                ((-1, 5, 4), 3, "-x.y"), ((1, 0, 0), 1, "+."), ((-1, 0, 0), 6, "-......"), ((1, 1, 0), 1, "+x"),
                ((1, 0, 1), 1, "+z"), ((1, 1, 1), 1, "+y"), ((1, 1, 2), 2, "+xz"), ((1, 2, 1), 2, "+zx"),
                ((-1, 63, 63), 6, "-yyyyyy"), ((1, 1, 0), 4, "+x..."), ((1, 0, 32), 6, "+.....z")):
            with self.subTest(row, coins=coins):
                self.assertEqual(show_row(row, coins), wanted)
                self.assertEqual(read_row(wanted), row)

    def test_all_rows_of_up_to_three_coins(self):
        for coins in (1, 2, 3):
            texts = {show_row(row, coins): row for row in all_rows(coins)}
            self.assertEqual(set(texts), {"".join(signs) for signs in product("+-", *[".xyz"] * coins)})
            for text, row in texts.items():
                self.assertEqual((row_text(row, coins), read_row(text)), (text, row))

    def test_drawn_rows_of_up_to_six_coins(self):
        numbers = Numbers(8)
        for coins in COIN_COUNTS:
            for row in rows_to_try(coins) + [any_row(coins, numbers) for times in range(100)]:
                text = show_row(row, coins)
                self.assertEqual(text, row_text(row, coins))
                self.assertEqual(read_row(text), row)

    def test_more_coins_than_letters(self):
        for coins in COIN_COUNTS:
            for more in range(coins, 7):
                for row in rows_to_try(coins, 12):
                    self.assertEqual(show_row(row, more), row_text(row, coins) + "." * (more - coins))
                    self.assertEqual(read_row(show_row(row, more)), row)


class ReadRow(unittest.TestCase):
    def check(self, text):
        if ROW.fullmatch(text):
            told = read_row(text)
            self.assertEqual(told, row_from(text))
            self.assertEqual(show_row(told, len(text) - 1), text)
            return True
        with self.subTest(text), self.assertRaises(NoText) as taken:
            read_row(text)
        self.assertIs(taken.exception.__class__, NoText)
        return False

    def test_other_texts(self):
        for text in NO_ROWS:
            self.assertFalse(self.check(text))

    def test_each_sign_alone_and_each_two(self):
        for sign in ALL_SIGNS:
            self.assertFalse(self.check(sign))
        for signs in product(ALL_SIGNS, repeat=2):
            self.check("".join(signs))

    def test_one_sign_otherwise_at_any_place(self):
        seen = {True: 0, False: 0}
        for text in ("+.", "-x", "+xz", "-x.y", "+zzxx", "-.yyxz", "+......", "-xyz.xy"):
            for other in with_one_sign_otherwise(text):
                seen[self.check(other)] += 1
        self.assertGreater(min(seen.values()), 50, seen)

    def test_one_to_six_signs_behind_the_first(self):
        for many in range(12):
            for sign in "+-":
                for letter in ".xyz":
                    self.assertEqual(self.check(sign + letter * many), 1 <= many <= 6)

    def test_kinds_of_what_is_told(self):
        for text in ("+x", "-..y"):
            told = read_row(text)
            self.assertEqual([told.__class__] + [part.__class__ for part in told], [tuple, int, int, int])


class AskersOwn(unittest.TestCase):
    def test_what_is_handed_in_stays(self):
        gates = [("mix", 0), ("follow", 0, 1)]
        show_gates(gates)
        self.assertEqual(gates, [("mix", 0), ("follow", 0, 1)])

    def test_a_changed_told_list_changes_nothing_else(self):
        for text in ("", "mix 0", "mix 0; follow 0 1"):
            told, beside = read_gates(text), read_gates(text)
            wanted = list(beside)
            told.append(("flip", 0))
            told[0] = None
            self.assertEqual((beside, read_gates(text)), (wanted, wanted))
            self.assertEqual(show_gates(beside), text)


if __name__ == "__main__":
    unittest.main()
