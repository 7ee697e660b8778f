import unittest
from functools import lru_cache
from itertools import combinations, permutations

from tests.helpers import (COIN_COUNTS, GREAT, NOT_FREE, Numbers, all_rows, any_row, free_rows, keeps, letters_many,
                           lists_to_try, minus, no_letters, plain_agree, plain_even, plain_harmless, plain_laid,
                           plain_least, plain_marks, plain_product, row_of_gates, row_text, rows_from_texts,
                           rows_to_try, stands_free, subsets, turns_with)
from turncoins.codes import Code
from turncoins.errors import CantMend, NoCode, NotFree
from turncoins.lists import least
from turncoins.looks import chance, looked
from turncoins.rows import laid, moved


def next_alike(coins):
    """Each coin lies like the next by z."""
    return [(1, 0, 3 << coin) for coin in range(coins - 1)]


def all_alike(coins):
    """All coins by x and all by z; of an even number of coins."""
    return [(1, 2 ** coins - 1, 0), (1, 0, 2 ** coins - 1)]


def ring(coins):
    """z x z about each coin, turned round; of three coins and more."""
    return [(1, 2 ** coin, 2 ** ((coin + 1) % coins) + 2 ** ((coin - 1) % coins)) for coin in range(coins)]


FIVE = rows_from_texts("+xzzx. +.xzzx +x.xzz +zx.xz +zzx.x")
# Coins, checks, the letters of the least unseen (None: there is none), the most letters of 0, 1 and 2 that are mended.
KNOWN = ([(coins, next_alike(coins), 1, 0) for coins in COIN_COUNTS]
         + [(2, all_alike(2), None, 2), (4, all_alike(4), 2, 0), (6, all_alike(6), 2, 0)]
         + [(5, list(four), 3, 1) for four in combinations(FIVE, 4)]
         + [(coins, ring(coins), None, 2) for coins in (3, 4, 5, 6)]
         + [(coins, [], 1, 0) for coins in COIN_COUNTS]
         + [(coins, [(1, 0, 2 ** coin) for coin in range(coins)], None, 2) for coins in COIN_COUNTS]
         + [(6, rows_from_texts("+xzzx.. +.xzzx. +x.xzz. +zx.xz. +.....z"), 3, 1),
            (6, rows_from_texts("+xzzx.. +.xzzx. +x.xzz. +zx.xz."), 1, 0)])


@lru_cache(maxsize=None)
def drawn_codes(seeds):
    """Pairs of coins and checks: some of the rows that gates make of the first rows, in whatever order."""
    codes = []
    for coins in COIN_COUNTS:
        for many in range(coins + 1):
            for seed in range(seeds):
                rows = [(1, 0, 2 ** coin) for coin in range(coins)]
                numbers = Numbers(seed + 10 * many)
                for gate in row_of_gates(coins, 4 * coins, 100 * seed + many):
                    # Few of the drawn gates mix, so each is followed by one that does.
                    mix = ("mix", numbers.below(coins))
                    rows = [moved(moved(row, gate), mix) for row in rows]
                codes.append((coins, [rows.pop(numbers.below(len(rows))) for times in range(many)]))
    return codes


def known_and_drawn(seeds):
    return [(coins, checks) for coins, checks, unseen, most in KNOWN] + drawn_codes(seeds)


def small_codes():
    """All codes of one coin; of two and three coins those without checks, with one, and some with more."""
    codes = []
    for coins in (1, 2, 3):
        even = [row for row in all_rows(coins) if plain_even(row) and not no_letters(row)]
        codes += [(coins, [])] + [(coins, [row]) for row in even]
        codes += [(coins, list(pair)) for pair in list(permutations(even, 2))[::13 if coins == 3 else 1]
                  if coins > 1 and stands_free(pair)]
    return codes + [(3, free_rows(3, 3, seed)) for seed in range(20)]


class Marks(unittest.TestCase):
    def test_ordinary_turns(self):
        for checks, turn, wanted in (
                ("+zz. +.zz", "+...", 0), ("+zz. +.zz", "+x..", 1), ("+zz. +.zz", "+.x.", 3), ("+zz. +.zz", "-..x", 2),
                ("+zz. +.zz", "+zzz", 0), ("+zz. +.zz", "+y.x", 3), ("+zz. +.zz", "+xxx", 0), ("-zz. +.zz", "+x..", 1),
                ("+z", "+x", 1), ("+z", "+z", 0), ("+z", "-y", 1), ("-x", "+z", 1), ("-x", "+y", 1),
                ("+xx +zz", "+x.", 2), ("+xx +zz", "+z.", 1), ("+xx +zz", "+y.", 3), ("+xx +zz", "-yy", 0)):
            with self.subTest(checks, turn=turn):
                code = Code(len(turn) - 1, rows_from_texts(checks))
                self.assertEqual(code.marks(rows_from_texts(turn)[0]), wanted)

    def test_without_checks(self):
        for coins in COIN_COUNTS:
            for turn in rows_to_try(coins):
                self.assertEqual(Code(coins, []).marks(turn), 0)
                self.assertEqual(Code(coins, []).is_harmless(turn), no_letters(turn))

    def check(self, code, coins, checks, turn):
        marks, harmless = code.marks(turn), code.is_harmless(turn)
        self.assertEqual(marks, sum(2 ** at for at, row in enumerate(checks) if not plain_agree(row, turn)))
        self.assertEqual(marks, plain_marks(checks, turn, coins))
        self.assertIs(harmless, turn[1:] in plain_harmless(checks))
        self.assertIs(marks.__class__, int)
        return marks, harmless

    def test_all_turns_of_up_to_three_coins(self):
        for coins, checks in small_codes():
            code = Code(coins, checks)
            for turn in all_rows(coins):
                self.check(code, coins, checks, turn)

    def test_drawn_turns_of_up_to_six_coins(self):
        seen = {}
        for coins, checks in known_and_drawn(4):
            code = Code(coins, checks)
            for turn in rows_to_try(coins, 30, len(checks)):
                marks, harmless = self.check(code, coins, checks, turn)
                seen[marks == 0, harmless] = seen.get((marks == 0, harmless), 0) + 1
        self.assertEqual(set(seen), {(True, True), (True, False), (False, False)})
        self.assertGreater(min(seen.values()), 200, seen)

    def test_products_of_the_checks_are_harmless_with_either_sign(self):
        for coins, checks in known_and_drawn(3):
            code = Code(coins, checks)
            for which in subsets(len(checks)):
                turn = (1, 0, 0)
                for at in which:
                    turn = plain_product(turn, checks[at])
                self.assertIs(code.is_harmless(turn), True)
                self.assertIs(code.is_harmless(minus(turn)), True)
                self.assertEqual((code.marks(turn), code.marks(minus(turn))), (0, 0))

    def test_turns_that_are_not_even(self):
        seen = 0
        for coins, checks in known_and_drawn(3):
            code = Code(coins, checks)
            for turn in rows_to_try(coins, 20, 5):
                if not plain_even(turn):
                    seen += 1
                    self.assertIs(code.is_harmless(turn), False)
                    self.assertEqual(code.marks(turn), plain_marks(checks, turn, coins))
        self.assertGreater(seen, 300)

    def test_signs_of_turns_and_of_checks_are_not_looked_at(self):
        for coins, checks in known_and_drawn(2):
            code, other = Code(coins, checks), Code(coins, [minus(check) for check in checks])
            for turn in rows_to_try(coins, 15, 6):
                told = (code.marks(turn), code.is_harmless(turn))
                self.assertEqual((code.marks(minus(turn)), code.is_harmless(minus(turn))), told)
                self.assertEqual((other.marks(turn), other.is_harmless(turn)), told)

    def test_bits_go_by_the_order_of_the_checks(self):
        for coins, checks in drawn_codes(2):
            if len(checks) < 4:
                for order in permutations(range(len(checks))):
                    code = Code(coins, [checks[at] for at in order])
                    for turn in rows_to_try(coins, 10, 7)[-10:]:
                        bits = [plain_marks([checks[at]], turn, coins) for at in order]
                        self.assertEqual(code.marks(turn), sum(bit << at for at, bit in enumerate(bits)))

    def test_turns_without_letters(self):
        for coins, checks in known_and_drawn(1):
            code = Code(coins, checks)
            for turn in ((1, 0, 0), (-1, 0, 0)):
                self.assertEqual(code.marks(turn), 0)
                self.assertIs(code.is_harmless(turn), True)


class LeastUnseen(unittest.TestCase):
    def check(self, coins, checks):
        """What is told, against all turns; tells its letters."""
        told = Code(coins, checks).least_unseen()
        harmless = plain_harmless(checks)
        unseen = [turn for turn in turns_with(coins, coins)
                  if plain_marks(checks, turn, coins) == 0 and turn[1:] not in harmless]
        self.assertEqual(told is None, len(checks) == coins)
        if not unseen:
            self.assertIsNone(told)
            return None
        self.assertIn(told, unseen)
        self.assertEqual(letters_many(told), min(letters_many(turn) for turn in unseen), (coins, checks))
        self.assertEqual([told.__class__] + [part.__class__ for part in told], [tuple, int, int, int])
        return letters_many(told)

    def test_known_codes(self):
        for coins, checks, wanted, most in KNOWN:
            with self.subTest(coins, checks=checks):
                self.assertEqual(self.check(coins, checks), wanted)

    def test_drawn_codes(self):
        seen = {}
        for coins, checks in drawn_codes(5):
            told = self.check(coins, checks)
            seen[told] = seen.get(told, 0) + 1
        self.assertLessEqual({None, 1, 2}, set(seen))

    def test_small_codes(self):
        for coins, checks in small_codes():
            self.check(coins, checks)

    def test_checks_of_either_sign(self):
        for coins, checks, wanted, most in KNOWN:
            self.assertEqual(self.check(coins, [minus(check) for check in checks]), wanted)


class Table(unittest.TestCase):
    def check(self, coins, checks, many):
        """What is told, against all turns with at most so many letters; tells whether it is mended."""
        code = Code(coins, checks)
        harmless = plain_harmless(checks)
        by_marks = {}
        for turn in turns_with(coins, many):
            by_marks.setdefault(plain_marks(checks, turn, coins), []).append(turn)
        mended = all(plain_bits(one, other) in harmless for turns in by_marks.values()
                     for one, other in combinations(turns, 2))
        if mended:
            self.check_table(code.table(many), by_marks)
        else:
            with self.assertRaises(CantMend) as taken:
                code.table(many)
            self.check_refusal(taken.exception, coins, checks, many)
        unseen = code.least_unseen()
        self.assertEqual(mended, unseen is None or letters_many(unseen) > 2 * many)
        return mended

    def check_table(self, table, by_marks):
        self.assertIs(table.__class__, dict)
        self.assertEqual(set(table), set(by_marks))
        for marks, turn in table.items():
            self.assertIs(marks.__class__, int)
            self.assertEqual([turn.__class__] + [part.__class__ for part in turn], [tuple, int, int, int])
            self.assertIn(turn, by_marks[marks])
            self.assertEqual(letters_many(turn), min(letters_many(other) for other in by_marks[marks]))

    def check_refusal(self, refusal, coins, checks, many):
        for turn in (refusal.one, refusal.other):
            self.assertEqual([turn.__class__] + [part.__class__ for part in turn], [tuple, int, int, int])
            self.assertIn(turn, turns_with(coins, many))
        marks = [plain_marks(checks, turn, coins) for turn in (refusal.one, refusal.other)]
        self.assertEqual(marks[0], marks[1])
        made = plain_product(refusal.one, refusal.other)
        self.assertNotIn(made[1:], plain_harmless(checks))
        self.assertIs(Code(coins, checks).is_harmless(made), False)

    def test_ordinary_tables(self):
        self.assertEqual(Code(1, [(1, 0, 1)]).table(0), {0: (1, 0, 0)})
        told = Code(1, [(1, 0, 1)]).table(1)
        self.assertEqual((set(told), told[0]), ({0, 1}, (1, 0, 0)))
        self.assertIn(told[1], [(1, 1, 0), (1, 1, 1)])
        told = Code(5, FIVE[:4]).table(1)
        self.assertEqual((set(told), told[0]), (set(range(16)), (1, 0, 0)))
        self.assertEqual({row_text(turn, 5) for turn in told.values()},
                         {"+....."} | {"+" + "." * at + letter + "." * (4 - at) for at in range(5) for letter in "xyz"})

    def test_known_codes(self):
        for coins, checks, unseen, most in KNOWN:
            for many in (0, 1, 2):
                with self.subTest(coins, checks=checks, many=many):
                    self.assertEqual(self.check(coins, checks, many), many <= most)

    def test_drawn_codes(self):
        seen = {}
        for coins, checks in drawn_codes(4):
            for many in (0, 1, 2):
                key = (many, self.check(coins, checks, many))
                seen[key] = seen.get(key, 0) + 1
        self.assertEqual(set(seen), {(0, True), (1, True), (1, False), (2, True), (2, False)})

    def test_small_codes(self):
        for coins, checks in small_codes():
            for many in (0, 1, 2):
                self.check(coins, checks, many)

    def test_no_letters_are_always_mended(self):
        for coins, checks in known_and_drawn(2):
            self.assertEqual(Code(coins, checks).table(0), {0: (1, 0, 0)})

    def test_checks_of_either_sign(self):
        for coins, checks, unseen, most in KNOWN[::2]:
            for many in (0, 1, 2):
                self.assertEqual(self.check(coins, [minus(check) for check in checks], many), many <= most)


def plain_bits(one, other):
    return (one[1] ^ other[1], one[2] ^ other[2])


def lists_kept(coins, checks, seed):
    """Lists that all checks keep, long ones too: what is left of drawn lists by the checks laid on them."""
    kept = []
    for numbers in lists_to_try(coins, seed):
        for check in checks:
            numbers = [a + b for a, b in zip(numbers, plain_laid(numbers, check))]
        if any(numbers):
            kept.append(numbers)
    return kept


class Mended(unittest.TestCase):
    def check(self, coins, checks, many, numbers, turn):
        code = Code(coins, checks)
        table = code.table(many)
        behind = laid(numbers, turn)
        self.assertEqual(behind, plain_laid(numbers, turn))
        marks = code.marks(turn)
        coming = behind
        for at, check in enumerate(checks):
            bit = marks >> at & 1
            for wish in (0, 1):
                self.assertEqual(looked(coming, check, wish), (bit, (1, 1), plain_least(coming)))
            self.assertEqual(chance(coming, check), (1 - bit, 1))
            coming = looked(coming, check, 1 - bit)[2]
        for mended in (laid(coming, table[marks]), plain_laid(behind, table[marks])):
            self.assertEqual(plain_least(mended), plain_least(numbers))
            self.assertEqual(least(mended), least(numbers))

    def test_known_and_drawn_codes(self):
        tried = 0
        for coins, checks in known_and_drawn(3):
            for many in (0, 1, 2):
                unseen = Code(coins, checks).least_unseen()
                if unseen is not None and letters_many(unseen) <= 2 * many:
                    continue
                numbers = Numbers(100 * coins + many)
                lists = lists_kept(coins, checks, many)
                for times in range(6):
                    turn = numbers.choice(turns_with(coins, many))
                    sign = numbers.choice((1, -1))
                    self.check(coins, checks, many, numbers.choice(lists), (sign,) + turn[1:])
                    tried += 1
        self.assertGreater(tried, 500)

    def test_each_turn_of_one_letter_on_five_coins(self):
        lists = lists_kept(5, FIVE[:4], 3)
        self.assertGreater(len(lists), 3)
        for numbers in lists[:4]:
            self.assertTrue(all(keeps(check, numbers) for check in FIVE[:4]))
            for turn in turns_with(5, 1):
                self.check(5, FIVE[:4], 1, numbers, turn)

    def test_what_cannot_be_mended_shows_it(self):
        """Looks at the checks tell the same behind both wrong turns, but some list that they keep ends otherwise."""
        for coins, checks, many in ((3, next_alike(3), 1), (4, all_alike(4), 1), (5, FIVE[:4], 2), (2, [], 1)):
            with self.assertRaises(CantMend) as taken:
                Code(coins, checks).table(many)
            refusal = taken.exception
            unlike = 0
            for numbers in lists_kept(coins, checks, 5):
                ends = [plain_laid(numbers, turn) for turn in (refusal.one, refusal.other)]
                unlike += plain_least(ends[0]) != plain_least(ends[1])
                for check in checks:
                    self.assertEqual(looked(ends[0], check)[:2], looked(ends[1], check)[:2])
            self.assertGreater(unlike, 0)


class Refused(unittest.TestCase):
    def no_code(self, coins, checks):
        with self.subTest(coins, checks=checks), self.assertRaises(NoCode) as taken:
            Code(coins, checks)
        self.assertIs(taken.exception.__class__, NoCode)

    def test_other_numbers_of_coins(self):
        for coins in (0, -1, -2, -6, 7, 8, 12, 64, GREAT, -GREAT, 10 ** 40):
            for checks in ([], [(1, 0, 1)], [(1, 0, 0)], [(1, 1, 1)], [(0, -1, 0)], [(1, 0, 1), (1, 1, 0)]):
                self.no_code(coins, checks)
        for coins in COIN_COUNTS:
            Code(coins, [])

    def test_more_checks_than_coins(self):
        for coins in COIN_COUNTS:
            rows = free_rows(coins, coins, 1)
            Code(coins, rows)
            for more in ((1, 0, 0), rows[0], minus(rows[-1]), (1, 1, 1), (5, 0, 0)):
                self.no_code(coins, rows + [more])
                self.no_code(coins, [more] + rows)
            self.no_code(coins, [(1, 0, 1)] * 20)

    def test_signs_and_bits(self):
        for coins, checks in known_and_drawn(1):
            beyond = 2 ** coins
            for at, (sign, xs, zs) in enumerate(checks):
                for row in ((0, xs, zs), (2, xs, zs), (-2, xs, zs), (GREAT, xs, zs), (sign, xs + beyond, zs),
                            (sign, xs, zs + beyond), (sign, xs + 2 * beyond, zs), (sign, xs, zs + GREAT * beyond),
                            (sign, -1, zs), (sign, xs, -1), (sign, xs - beyond, zs), (sign, xs, zs - beyond),
                            (sign, -GREAT, zs), (sign, xs + beyond, zs + beyond)):
                    self.no_code(coins, checks[:at] + [row] + checks[at + 1:])

    def test_no_code_ahead_of_not_free(self):
        for coins, checks in ((2, [(1, 1, 1), (1, 0, 4)]), (2, [(1, 4, 0), (1, 1, 1)]), (2, [(1, 1, 0), (2, 0, 1)]),
                              (3, [(1, 1, 0), (1, 0, 1), (1, 0, -1)]), (1, [(1, 1, 0), (1, 0, 1)]),
                              (1, [(1, 0, 0), (1, 0, 0)]), (3, [(1, 0, 0), (1, 0, 0), (0, 0, 0)]),
                              (2, [(1, 1, 0), (1, 1, 0), (1, 1, 0)]), (7, [(1, 1, 1)]), (0, [(1, 1, 1)])):
            self.no_code(coins, checks)

    def test_checks_that_do_not_stand_free(self):
        for rows, which in NOT_FREE:
            least_coins = max(len(rows), max(max(row[1:]).bit_length() for row in rows), 1)
            for coins in range(least_coins, 7):
                with self.subTest(coins, rows=rows), self.assertRaises(NotFree) as taken:
                    Code(coins, list(rows))
                self.assertEqual(taken.exception.which, which)
                self.assertIs(taken.exception.__class__, NotFree)

    def test_the_fifth_of_five_checks_is_made_of_the_others(self):
        with self.assertRaises(NotFree) as taken:
            Code(5, FIVE)
        self.assertEqual(taken.exception.which, [0, 1, 2, 3, 4])

    def test_all_alike_of_an_odd_number_of_coins_disagree(self):
        for coins in (3, 5):
            with self.assertRaises(NotFree) as taken:
                Code(coins, all_alike(coins))
            self.assertEqual(taken.exception.which, [0, 1])

    def test_drawn_checks_are_taken_just_where_they_stand_free(self):
        seen = {True: 0, False: 0}
        for coins in COIN_COUNTS:
            numbers = Numbers(coins)
            for times in range(60):
                rows = [any_row(coins, numbers) for many in range(1 + numbers.below(min(coins, 3)))]
                free = stands_free(rows)
                seen[free] += 1
                if free:
                    Code(coins, rows)
                else:
                    with self.assertRaises(NotFree) as taken:
                        Code(coins, rows)
                    self.assertEqual(taken.exception.which, first_not_free(rows, taken.exception.which))
        self.assertGreater(min(seen.values()), 40, seen)


def first_not_free(rows, which):
    """Point 14; of sets that come to no letters the one that was told, if it is such a set."""
    for at, row in enumerate(rows):
        if not plain_even(row):
            return [at]
    for at, row in enumerate(rows):
        for before in range(at):
            if not plain_agree(rows[before], row):
                return [before, at]
    made = (1, 0, 0)
    for at in which:
        made = plain_product(made, rows[at])
    return which if which and which == sorted(set(which)) and no_letters(made) else None


class AskersOwn(unittest.TestCase):
    def asked(self, code, coins):
        told = [code.least_unseen()]
        for many in (0, 1, 2):
            try:
                told.append(code.table(many))
            except CantMend as refusal:
                told.append((refusal.one, refusal.other))
        return told + [(code.marks(turn), code.is_harmless(turn)) for turn in rows_to_try(coins, 12)[-12:]]

    def test_a_change_of_the_checks_behind_changes_nothing(self):
        for coins, checks in known_and_drawn(1):
            handed = list(checks)
            code = Code(coins, handed)
            wanted = self.asked(Code(coins, list(checks)), coins)
            self.assertEqual(handed, checks)
            handed.append((1, 1, 1))
            self.assertEqual(self.asked(code, coins), wanted)
            handed.clear()
            self.assertEqual(self.asked(code, coins), wanted)
            handed += [(1, 2 ** 9, 5)] * 3
            self.assertEqual(self.asked(code, coins), wanted)

    def test_what_is_handed_in_stays(self):
        for coins, checks in known_and_drawn(1):
            handed = list(checks)
            self.asked(Code(coins, handed), coins)
            self.assertEqual(handed, checks)
        for coins, checks in ((1, [(1, 1, 1)]), (1, [(1, 0, 1), (1, 0, 1)]), (9, [(1, 0, 1)])):
            handed = list(checks)
            with self.assertRaises((NoCode, NotFree)):
                Code(coins, handed)
            self.assertEqual(handed, checks)

    def test_a_told_table_is_the_askers_own(self):
        for coins, checks, unseen, most in KNOWN:
            code = Code(coins, checks)
            for many in range(most + 1):
                told, beside = code.table(many), code.table(many)
                wanted = dict(beside)
                told.clear()
                self.assertEqual((beside, code.table(many)), (wanted, wanted))
                told[0] = (1, 1, 0)
                beside[99] = None
                self.assertEqual(code.table(many), wanted)
                self.assertEqual(Code(coins, checks).table(many), wanted)
                self.assertEqual(code.least_unseen() is None, unseen is None)

    def test_codes_have_nothing_in_common(self):
        checks = next_alike(3)
        one, other = Code(3, checks), Code(3, list(reversed(checks)))
        third = Code(4, checks)
        self.assertEqual([code.marks((1, 1, 0)) for code in (one, other, third)], [1, 2, 1])
        self.assertEqual([code.marks((1, 8, 0)) for code in (one, third)], [0, 0])
        self.assertEqual([code.marks((1, 1, 0)) for code in (one, other, third)], [1, 2, 1])

    def test_the_same_is_told_again(self):
        for coins, checks in known_and_drawn(1):
            code = Code(coins, checks)
            self.assertEqual(self.asked(code, coins), self.asked(code, coins))


if __name__ == "__main__":
    unittest.main()
