"""Lists and rows beside one another: whatever gates and looks come, both tell the same."""

import unittest
from fractions import Fraction

from tests.helpers import (COIN_COUNTS, Numbers, PlainCoins, any_row, deeds, free_rows, gates_text, is_least_form,
                           keeps, letters_many, list_kept_by, lists_to_try, no_letters, plain_even, plain_laid,
                           plain_least, plain_marks, plain_overlap, plain_turned, row_from, row_of_gates,
                           row_text, rows_from_texts, stands_free, turns_with)
from turncoins.bridges import list_of, overlap, rows_of, rows_overlap
from turncoins.codes import Code
from turncoins.desk import Desk
from turncoins.errors import CantMend
from turncoins.gates import turned, turned_by
from turncoins.images import images, parting, start_list
from turncoins.lists import first_list, least
from turncoins.looks import chance, looked
from turncoins.making import gates_of
from turncoins.rows import laid, moved
from turncoins.shorts import checked, first_rows, rows_looked, rows_turned


class BesideOneAnother(unittest.TestCase):
    def setUp(self):
        self.seen = {}

    def check_state(self, numbers, rows):
        self.assertEqual(numbers, plain_least(numbers))
        self.assertTrue(is_least_form(rows, len(rows)))
        for row in rows:
            self.assertTrue(keeps(row, numbers), (numbers, rows))
            self.assertEqual(laid(numbers, row), numbers)
        self.assertEqual((list_of(rows), rows_of(numbers)), (numbers, rows))

    def check_look(self, numbers, rows, row, wish):
        by_list, by_rows = looked(numbers, row, wish), rows_looked(rows, row, wish)
        self.assertEqual(by_list[:2], by_rows[:2], (numbers, rows, row, wish))
        nought = Fraction(*chance(numbers, row))
        self.assertEqual(Fraction(*by_rows[1]), nought if by_rows[0] == 0 else 1 - nought)
        self.seen[by_rows[:2]] = self.seen.get(by_rows[:2], 0) + 1
        return by_list[2], by_rows[2]

    def walk(self, numbers, rows, seed, many):
        self.check_state(numbers, rows)
        for kind, deed in deeds(len(rows), many, seed):
            if kind == "gate":
                numbers, rows = turned(numbers, deed), rows_turned(rows, deed)
            else:
                numbers, rows = self.check_look(numbers, rows, *deed)
            self.check_state(numbers, rows)

    def test_from_the_first_list_and_rows(self):
        for coins in COIN_COUNTS:
            for seed in range(4):
                self.walk(first_list(coins), first_rows(coins), seed, 80)
        self.assertEqual(set(self.seen), {(0, (1, 1)), (1, (1, 1)), (0, (1, 2)), (1, (1, 2))})
        self.assertGreater(min(self.seen.values()), 20, self.seen)

    def test_a_row_of_two_hundred_deeds(self):
        for coins in COIN_COUNTS:
            self.walk(first_list(coins), first_rows(coins), 50, 200)

    def test_from_any_rows(self):
        for coins in COIN_COUNTS:
            for seed in range(4):
                rows = free_rows(coins, coins, seed)
                self.walk(list_kept_by(rows), checked(rows), 20 + seed, 40)

    def test_looks_along_the_rows_themselves(self):
        for coins in COIN_COUNTS:
            rows = free_rows(coins, coins, 9)
            numbers = list_kept_by(rows)
            for row in rows:
                for sign, told in ((1, 0), (-1, 1)):
                    asked = (sign * row[0], row[1], row[2])
                    for wish in (0, 1):
                        self.assertEqual(looked(numbers, asked, wish), (told, (1, 1), numbers))
                        self.assertEqual(rows_looked(rows, asked, wish), (told, (1, 1), checked(rows)))

    def test_least_forms_are_alike_just_where_the_lists_are(self):
        for coins in (1, 2, 3):
            ends = []
            for seed in range(30):
                gates = [deed for kind, deed in deeds(coins, 12, seed) if kind == "gate"]
                rows = first_rows(coins)
                for gate in gates:
                    rows = rows_turned(rows, gate)
                ends.append((turned_by(first_list(coins), gates), rows))
            for one in ends:
                for other in ends:
                    self.assertEqual(one[0] == other[0], one[1] == other[1])
                    self.assertEqual(overlap(one[0], other[0]), rows_overlap(one[1], other[1]))
                    self.assertEqual(overlap(one[0], other[0]) == (1, 1), one[0] == other[0])

    def test_gates_do_the_same_just_where_they_move_the_same_rows_to_the_same(self):
        for coins in COIN_COUNTS:
            rows = [row_of_gates(coins, 3 + seed, seed) for seed in range(6)]
            rows += [gates_of(images(coins, gates)) for gates in rows] + [[]]
            for one in rows:
                for other in rows:
                    start = parting(coins, one, other)
                    moved_alike = images(coins, one) == images(coins, other)
                    self.assertEqual(start is None, moved_alike)
                    if moved_alike:
                        for numbers in lists_to_try(coins)[4:8]:
                            self.assertEqual(turned_by(numbers, one), turned_by(numbers, other))
                    else:
                        ends = [turned_by(start_list(start), gates) for gates in (one, other)]
                        self.assertNotEqual(ends[0], ends[1])
                        self.assertNotEqual(overlap(ends[0], ends[1]), (1, 1))

    def test_moved_one_by_one_or_all_together(self):
        for coins in COIN_COUNTS:
            rows, numbers = first_rows(coins), first_list(coins)
            alone = list(rows)
            for kind, gate in deeds(coins, 60, 5):
                if kind == "gate":
                    rows, numbers = rows_turned(rows, gate), turned(numbers, gate)
                    alone = [moved(row, gate) for row in alone]
                    self.assertEqual(checked(alone), rows)
                    self.assertEqual(numbers, plain_turned(turned(numbers, gate), gate))
                    self.assertEqual(least(numbers), list_kept_by(rows))
                    self.assertFalse([row for row in rows if no_letters(row)])


class ByOneDesk(unittest.TestCase):
    """Coins told the long way and the short way by one desk, against lists reckoned here alone."""

    def both(self, desk, kind, rest=""):
        told = [desk.say(f"{kind} {name}{rest}") for name in ("long", "short")]
        self.assertEqual(told[0], told[1], (kind, rest))
        return told[0]

    def laid_out(self, coins):
        desk = Desk()
        for way in ("long", "short"):
            self.assertEqual(desk.say(f"coins {way} {coins} {way}"), "ok")
        return desk, PlainCoins(coins)

    def do(self, desk, plain, kind, deed):
        if kind == "gate":
            self.assertEqual(self.both(desk, "turn", f" {gates_text([deed])}"), "ok")
            plain.turn([deed])
            return "ok"
        row, wish = deed
        text = row_text(row, plain.coins)
        self.assertEqual(self.both(desk, "chance", f" {text}"), str(plain.chance(row)))
        told = self.both(desk, "look", f" {text} {wish}")
        self.assertEqual(told, "{} {}".format(*plain.look(row, wish)))
        return told

    def check_all(self, desk, plain):
        numbers, coins = plain.numbers, plain.coins
        self.assertEqual(self.both(desk, "list"), " ".join(str(number) for number in numbers))
        rows = rows_from_texts(self.both(desk, "rows"))
        self.assertTrue(len(rows) == coins and is_least_form(rows, coins) and all(keeps(row, numbers) for row in rows))
        self.assertEqual((list_of(rows), rows_of(numbers)), (numbers, rows))
        for line in ("overlap long short", "overlap short long", "overlap long long", "overlap short short"):
            self.assertEqual(desk.say(line), "1")

    def check_ties(self, desk, plain):
        for part in range(2 ** plain.coins):
            word = "".join(str(part >> coin & 1) for coin in range(plain.coins))
            self.assertEqual(self.both(desk, "ties", f" {word}"), str(plain.ties(part)))

    def test_drawn_deeds(self):
        seen = {}
        for coins in COIN_COUNTS:
            for seed in range(4):
                desk, plain = self.laid_out(coins)
                for kind, deed in deeds(coins, 60, 60 + seed):
                    told = self.do(desk, plain, kind, deed)
                    seen[told] = seen.get(told, 0) + 1
                    self.check_all(desk, plain)
                self.check_ties(desk, plain)
        self.assertEqual(set(seen), {"ok", "0 1", "1 1", "0 1/2", "1 1/2"})

    def test_two_hundred_deeds(self):
        for coins in COIN_COUNTS:
            desk, plain = self.laid_out(coins)
            for kind, deed in deeds(coins, 200, 70):
                self.do(desk, plain, kind, deed)
            self.check_all(desk, plain)

    def test_rows_of_gates_in_one_line(self):
        for coins in COIN_COUNTS:
            desk, plain = self.laid_out(coins)
            for many in (0, 1, 2, 7, 40):
                gates = row_of_gates(coins, many, many)
                self.assertEqual(self.both(desk, "turn", f" {gates_text(gates)}"), "ok")
                plain.turn(gates)
                self.check_all(desk, plain)

    def test_overlaps_of_either_way(self):
        for coins in COIN_COUNTS:
            desk, kept = Desk(), {}
            for at, name in enumerate("abcdef"):
                desk.say(f"coins {name} {coins} {('long', 'short')[at % 2]}")
                kept[name] = PlainCoins(coins)
                for kind, deed in deeds(coins, 5 * at, 80 + at):
                    if kind == "gate":
                        desk.say(f"turn {name} {gates_text([deed])}")
                        kept[name].turn([deed])
                    else:
                        desk.say(f"look {name} {row_text(deed[0], coins)} {deed[1]}")
                        kept[name].look(*deed)
            for one in kept:
                for other in kept:
                    told = desk.say(f"overlap {one} {other}")
                    self.assertEqual(told, str(plain_overlap(kept[one].numbers, kept[other].numbers)))
                    alike = desk.say(f"list {one}") == desk.say(f"list {other}")
                    self.assertEqual(alike, desk.say(f"rows {one}") == desk.say(f"rows {other}"))
                    self.assertEqual(alike, told == "1")

    def test_a_start_that_parts_shows_it_on_coins(self):
        for coins in COIN_COUNTS:
            for seed in range(6):
                gates = [gates_text(row_of_gates(coins, 2 + seed, seed + side)) for side in (0, 40)]
                again = gates_text(gates_of(images(coins, row_of_gates(coins, 2 + seed, seed))))
                self.assertEqual(Desk().say(f"part {coins} {gates[0]} / {again}"), "none")
                start = Desk().say(f"part {coins} {gates[0]} / {gates[1]}")
                mixes = "; ".join(f"mix {coin}" for coin, sign in enumerate(start) if sign == "+")
                for way in ("long", "short"):
                    desk = Desk()
                    for name, row in zip("ab", gates):
                        if start != "none":
                            desk.say(f"coins {name} {coins} {way}")
                            desk.say(f"turn {name} {mixes}")
                            desk.say(f"turn {name} {row}")
                    if start != "none":
                        self.assertNotEqual(desk.say("list a"), desk.say("list b"))
                        self.assertNotEqual(desk.say("overlap a b"), "1")


def as_gates(row):
    """Gates that do to a list what a row does when it is laid on it, but for its sign."""
    gates = [("sign", coin) for coin in range(6) if row[2] >> coin & 1]
    return gates + [("flip", coin) for coin in range(6) if row[1] >> coin & 1]


class WrongTurnsMended(unittest.TestCase):
    def coins_with_deeds(self, desk, coins, seed):
        for name in ("long", "short"):
            desk.say(f"coins {name} {coins} {name}")
            for gate in row_of_gates(coins, 8, seed):
                desk.say(f"turn {name} {gates_text([gate])}; mix {seed % coins}")
        return rows_from_texts(desk.say("rows long"))

    def check_mended(self, desk, name, checks, turn, many):
        coins = letters_in(desk, name)
        before = (desk.say(f"list {name}"), desk.say(f"rows {name}"))
        numbers = [int(number) for number in before[0].split()]
        desk.say(f"turn {name} {gates_text(as_gates(turn))}")
        wanted = " ".join(str(number) for number in plain_least(plain_laid(numbers, turn)))
        self.assertEqual(desk.say(f"list {name}"), wanted)
        marks = plain_marks(checks, turn, coins)
        for at, check in enumerate(checks):
            for wish in (0, 1):
                self.assertEqual(desk.say(f"look {name} {row_text(check, coins)} {wish}"), f"{marks >> at & 1} 1")
        texts = " ".join(row_text(check, coins) for check in checks)
        told = desk.say(f"mend {coins} {many} {row_text(turn, coins)} {texts}")
        desk.say(f"turn {name} {gates_text(as_gates(row_from(told)))}")
        self.assertEqual((desk.say(f"list {name}"), desk.say(f"rows {name}")), before)

    def test_by_the_desk(self):
        tried = 0
        for coins in COIN_COUNTS:
            for seed in range(6):
                desk = Desk()
                rows = self.coins_with_deeds(desk, coins, seed)
                numbers = Numbers(seed)
                for fewer in (0, 1, 2):
                    checks = rows[:len(rows) - fewer]
                    unseen = Code(coins, checks).least_unseen()
                    for many in (0, 1, 2):
                        if unseen is None or letters_many(unseen) > 2 * many:
                            for name in ("long", "short"):
                                turn = numbers.choice(turns_with(coins, many))
                                self.check_mended(desk, name, checks, turn, many)
                                tried += 1
        self.assertGreater(tried, 200)

    def test_each_wrong_turn_is_mended_or_two_show_that_it_cannot_be(self):
        seen = {True: 0, False: 0}
        for coins in COIN_COUNTS:
            for seed in range(4):
                checks = free_rows(coins, max(0, coins - seed % 2), 300 + seed)
                kept = list_kept_by(free_rows_beside(checks, coins))
                for many in (0, 1, 2):
                    code = Code(coins, checks)
                    try:
                        table = code.table(many)
                    except CantMend as refusal:
                        self.assertEqual(code.marks(refusal.one), code.marks(refusal.other))
                        seen[False] += 1
                        continue
                    seen[True] += 1
                    for turn in turns_with(coins, many):
                        behind = laid(kept, turn)
                        bits = [looked(behind, check)[:2] for check in checks]
                        marks = sum(told << at for at, (told, likely) in enumerate(bits))
                        self.assertEqual([likely for told, likely in bits], [(1, 1)] * len(checks))
                        self.assertEqual(marks, code.marks(turn))
                        self.assertEqual(least(laid(behind, table[marks])), kept)
        self.assertGreater(min(seen.values()), 5, seen)


def letters_in(desk, name):
    return len(desk.say(f"rows {name}").split()[0]) - 1


def free_rows_beside(checks, coins):
    """Free rows, as many as coins, the checks first."""
    rows, numbers = list(checks), Numbers(coins)
    while len(rows) < coins:
        row = any_row(coins, numbers)
        if plain_even(row) and not no_letters(row) and stands_free(rows + [row]):
            rows.append(row)
    return rows


if __name__ == "__main__":
    unittest.main()
