import re
import unittest
from itertools import product

from tests.helpers import (COIN_COUNTS, Numbers, PlainCoins, all_gates, any_row, free_rows, gates_text, is_least_form,
                           keeps, letters_many, plain_agree, plain_even, plain_harmless, plain_least, plain_marks,
                           plain_overlap, plain_product, raw_turned_by, row_from, row_text, rows_from_texts, turns_with,
                           whole_turning, with_one_sign_otherwise)
from turncoins import errors
from turncoins.desk import Desk
from turncoins.errors import CantMend, CoinError, NoCode, NoGate, NoLine, NoLook, NoName, NotFree, NoText

FORMS = {kind: re.compile(form, re.DOTALL) for kind, form in (
    ("coins", "coins ([^ ]*) ([^ ]*) (long|short)"), ("drop", "drop ([^ ]*)"), ("turn", "turn ([^ ]*) (.*)"),
    ("look", "look ([^ ]*) ([^ ]*) ([^ ]*)"), ("chance", "chance ([^ ]*) ([^ ]*)"), ("list", "list ([^ ]*)"),
    ("rows", "rows ([^ ]*)"), ("overlap", "overlap ([^ ]*) ([^ ]*)"), ("ties", "ties ([^ ]*) ([^ ]*)"),
    ("part", "part ([^ ]*) (.*?) / (.*)"), ("mend", "mend ([^ ]*) ([^ ]*) ([^ ]*) (.*)"))}
GATE = "(?:(?:mix|flip|sign) [0-9]|(?:follow|meet|swap) [0-9] [0-9])"
START_LISTS = {"0": (1, 0), "+": (1, 1)}


class Wrong(Exception):
    """What the other telling of the desk refuses: the class's name, and its fields where they are promised."""

    def __init__(self, name, **fields):
        super().__init__(name, fields)
        self.name = name
        self.fields = fields


def read(form, word):
    if not re.fullmatch(form, word):
        raise Wrong("NoText")
    return word


def row_read(word, coins):
    return row_from(read(f"[+-][.xyz]{{{coins}}}", word))


def gates_read(text):
    read(f"(?:{GATE}(?:; {GATE})*)?", text)
    return [(words[0],) + tuple(int(coin) for coin in words[1:])
            for words in (gate.split() for gate in text.split(";")) if words]


def gates_used(gates, coins):
    for at, gate in enumerate(gates):
        if gate not in all_gates(coins):
            raise Wrong("NoGate", at=at)


def looked_at(row):
    if not plain_even(row):
        raise Wrong("NoLook")


def list_of_start(start):
    numbers = [1]
    for sign in start:
        numbers = [number * times for times in START_LISTS[sign] for number in numbers]
    return numbers


class PlainDesk:
    """The desk told another way: lines by patterns, coins by lists alone. It answers with a text or with a check."""

    def __init__(self):
        self.kept = {}

    def named(self, word):
        if not re.fullmatch("[a-z]{1,8}", word):
            raise Wrong("NoName")
        return word

    def standing(self, word):
        if self.named(word) not in self.kept:
            raise Wrong("NoName")
        return self.kept[word]

    def say(self, line):
        for kind, form in FORMS.items():
            found = form.fullmatch(line)
            if found:
                return getattr(self, "say_" + kind)(*found.groups())
        raise Wrong("NoLine")

    def say_coins(self, name, coins, way):
        self.named(name)
        self.kept[name] = PlainCoins(int(read("[1-6]", coins)))
        return "ok"

    def say_drop(self, name):
        self.standing(name)
        del self.kept[name]
        return "ok"

    def say_turn(self, name, text):
        coins, gates = self.standing(name), gates_read(text)
        gates_used(gates, coins.coins)
        coins.turn(gates)
        return "ok"

    def say_look(self, name, word, wish):
        coins = self.standing(name)
        row, wish = row_read(word, coins.coins), int(read("[01]", wish))
        looked_at(row)
        return "{} {}".format(*coins.look(row, wish))

    def say_chance(self, name, word):
        coins = self.standing(name)
        row = row_read(word, coins.coins)
        looked_at(row)
        return str(coins.chance(row))

    def say_list(self, name):
        return " ".join(str(number) for number in self.standing(name).numbers)

    def say_rows(self, name):
        coins = self.standing(name)
        return lambda test, told: check_rows(test, told, coins.numbers)

    def say_overlap(self, name, other):
        one, other = self.standing(name), self.standing(other)
        if one.coins != other.coins:
            raise Wrong("NoText")
        return str(plain_overlap(one.numbers, other.numbers))

    def say_ties(self, name, word):
        coins = self.standing(name)
        read(f"[01]{{{coins.coins}}}", word)
        return str(coins.ties(int(word[::-1], 2)))

    def say_part(self, coins, one, other):
        coins = int(read("[1-6]", coins))
        one, other = gates_read(one), gates_read(other)
        gates_used(one, coins)
        gates_used(other, coins)
        return lambda test, told: check_start(test, told, coins, one, other)

    def say_mend(self, coins, many, turn, checks):
        coins, many = int(read("[1-6]", coins)), int(read("[0-2]", many))
        turn = row_read(turn, coins)
        if letters_many(turn) > many:
            raise Wrong("NoText")
        checks = [row_read(word, coins) for word in checks.split(" ")] if checks else []
        code_used(coins, checks, many)
        return lambda test, told: check_mended(test, told, coins, checks, turn)


def code_used(coins, checks, many):
    if len(checks) > coins:
        raise Wrong("NoCode")
    for at, row in enumerate(checks):
        if not plain_even(row):
            raise Wrong("NotFree", which=[at])
    for at, row in enumerate(checks):
        for before in range(at):
            if not plain_agree(checks[before], row):
                raise Wrong("NotFree", which=[before, at])
    if len(plain_harmless(checks)) < 2 ** len(checks):
        raise Wrong("NotFree")
    seen = {}
    for turn in turns_with(coins, many):
        first = seen.setdefault(plain_marks(checks, turn, coins), turn)
        if plain_product(first, turn)[1:] not in plain_harmless(checks):
            raise Wrong("CantMend")


def check_rows(test, told, numbers):
    rows = rows_from_texts(told)
    coins = len(numbers).bit_length() - 1
    test.assertEqual(told, " ".join(row_text(row, coins) for row in rows))
    test.assertEqual(len(rows), coins)
    test.assertTrue(is_least_form(rows, coins))
    test.assertTrue(all(keeps(row, numbers) for row in rows))


def check_start(test, told, coins, one, other):
    if told == "none":
        test.assertEqual(whole_turning(coins, one), whole_turning(coins, other))
    else:
        test.assertRegex(told, f"\\A[0+]{{{coins}}}\\Z")
        ends = [plain_least(raw_turned_by(list_of_start(told), gates)) for gates in (one, other)]
        test.assertNotEqual(ends[0], ends[1])


def check_mended(test, told, coins, checks, turn):
    row = row_from(told)
    marks = plain_marks(checks, turn, coins)
    test.assertEqual((told, row[0]), (row_text(row, coins), 1))
    test.assertEqual(plain_marks(checks, row, coins), marks)
    test.assertIn(plain_product(row, turn)[1:], plain_harmless(checks))
    test.assertEqual(letters_many(row), min(letters_many(other) for other in turns_with(coins, letters_many(turn))
                                            if plain_marks(checks, other, coins) == marks))


def everything(desk, names=("a", "b", "c", "d", "z")):
    """All that a desk answers of what stands by some names."""
    told = []
    for name in names:
        for line in (f"list {name}", f"rows {name}"):
            told.append(answer(desk, line))
        for coins in COIN_COUNTS:
            told.append(answer(desk, f"chance {name} +{'z' * coins}"))
            told.append(answer(desk, f"ties {name} 1{'0' * (coins - 1)}"))
        told += [answer(desk, f"overlap {name} {other}") for other in names]
    return told


def answer(desk, line):
    try:
        return desk.say(line)
    except CoinError as refusal:
        return refusal.__class__


class DeskTest(unittest.TestCase):
    def refused(self, desk, line, kind, **fields):
        with self.subTest(line), self.assertRaises(kind) as taken:
            desk.say(line)
        self.assertIs(taken.exception.__class__, kind)
        for field, value in fields.items():
            self.assertEqual(getattr(taken.exception, field), value)
        return taken.exception

    def refused_and_nothing_changed(self, desk, line, kind, **fields):
        before = everything(desk)
        refusal = self.refused(desk, line, kind, **fields)
        self.assertEqual(everything(desk), before, line)
        return refusal

    def told(self, desk, lines):
        for line, wanted in lines:
            self.assertEqual(desk.say(line), wanted, line)

    def beside(self, desk, plain, line):
        """A line to both desks; tells the refusal's name, or the line's first word."""
        try:
            wanted = plain.say(line)
        except Wrong as wrong:
            self.refused(desk, line, getattr(errors, wrong.name), **wrong.fields)
            return wrong.name
        told = desk.say(line)
        self.assertIs(told.__class__, str)
        if isinstance(wanted, str):
            self.assertEqual(told, wanted, line)
        else:
            wanted(self, told)
        return line.split(" ")[0]


def desk_with(*lines):
    desk = Desk()
    for line in lines:
        desk.say(line)
    return desk


WAYS = ("long", "short")


class EachLine(DeskTest):
    def test_coins(self):
        for way in WAYS:
            for coins in COIN_COUNTS:
                desk = Desk()
                rows = " ".join("+" + "." * coin + "z" + "." * (coins - coin - 1) for coin in range(coins))
                self.told(desk, ((f"coins a {coins} {way}", "ok"), ("list a", "1" + " 0" * (2 ** coins - 1)),
                                 ("rows a", rows)))

    def test_the_two_ways_are_kept_by_lists_and_by_rows(self):
        """Both answer alike, so this alone shows that they are two."""
        desk = desk_with("coins a 2 long", "coins b 2 short")
        for line in ("turn {} mix 0", "look {} +xx 1", "turn {} "):
            for name in "ab":
                desk.say(line.format(name))
        self.assertEqual(desk.kept, {"a": ("long", [1, 1, -1, -1]), "b": ("short", [(1, 1, 0), (-1, 2, 0)])})

    def test_coins_in_the_place_of_what_stood(self):
        for way, other in product(WAYS, repeat=2):
            self.told(Desk(), (
                (f"coins a 2 {way}", "ok"), ("turn a mix 0", "ok"), (f"coins b 1 {way}", "ok"), ("turn b flip 0", "ok"),
                (f"coins a 1 {other}", "ok"), ("list a", "1 0"), ("rows a", "+z"), ("list b", "0 1"),
                (f"coins a 3 {way}", "ok"), ("list a", "1 0 0 0 0 0 0 0"), ("rows a", "+z.. +.z. +..z")))

    def test_drop(self):
        for way in WAYS:
            desk = desk_with(f"coins a 1 {way}", f"coins b 1 {way}", "turn b flip 0")
            self.told(desk, (("drop a", "ok"), ("list b", "0 1")))
            for line in ("list a", "rows a", "drop a", "turn a flip 0", "turn a ", "look a +z 0", "chance a +z",
                         "overlap a b", "overlap b a", "overlap a a", "ties a 1"):
                self.refused(desk, line, NoName)
            self.told(desk, (("list b", "0 1"), (f"coins a 2 {way}", "ok"), ("list a", "1 0 0 0"), ("drop b", "ok"),
                             ("list a", "1 0 0 0")))

    def test_turn(self):
        for way in WAYS:
            self.told(desk_with(f"coins a 2 {way}"), (
                ("turn a mix 0; follow 0 1", "ok"), ("list a", "1 0 0 1"), ("rows a", "+xx +zz"),
                ("turn a sign 0", "ok"), ("list a", "1 0 0 -1"), ("rows a", "-xx +zz"),
                ("turn a flip 1", "ok"), ("list a", "0 1 -1 0"), ("rows a", "-xx -zz"),
                ("turn a ", "ok"), ("list a", "0 1 -1 0"),
                ("turn a swap 0 1", "ok"), ("list a", "0 1 -1 0"), ("rows a", "-xx -zz"),
                ("turn a meet 1 0; mix 1", "ok"), ("list a", "1 -1 -1 -1"), ("rows a", "-xz -zx")))

    def test_look(self):
        for way in WAYS:
            self.told(desk_with(f"coins a 2 {way}", "turn a mix 0; follow 0 1"), (
                ("look a +xx 1", "0 1"), ("look a -xx 0", "1 1"), ("look a +zz 0", "0 1"), ("list a", "1 0 0 1"),
                ("look a +yy 0", "0 1"), ("look a -yy 0", "1 1"), ("look a +.. 1", "0 1"), ("look a -.. 0", "1 1"),
                ("look a +z. 1", "1 1/2"), ("list a", "0 0 0 1"), ("rows a", "-z. -.z"),
                ("look a +z. 0", "1 1"), ("look a -.z 1", "0 1"), ("look a +x. 0", "0 1/2"), ("list a", "0 0 1 1"),
                ("rows a", "+x. -.z"), ("look a -xx 1", "1 1/2"), ("list a", "1 1 1 1")))

    def test_chance(self):
        for way in WAYS:
            self.told(desk_with(f"coins a 2 {way}", "turn a mix 0; follow 0 1"), (
                ("chance a +zz", "1"), ("chance a -zz", "0"), ("chance a +z.", "1/2"), ("chance a -z.", "1/2"),
                ("chance a +yy", "1"), ("chance a +..", "1"), ("chance a -..", "0"), ("chance a -yy", "0"),
                ("list a", "1 0 0 1"), ("rows a", "+xx +zz")))

    def test_overlap(self):
        for way, other in product(WAYS, repeat=2):
            self.told(desk_with(f"coins a 2 {way}", f"coins b 2 {other}"), (
                ("overlap a b", "1"), ("turn b mix 0", "ok"), ("overlap a b", "1/2"), ("overlap b a", "1/2"),
                ("overlap a a", "1"), ("overlap b b", "1"), ("turn b mix 1", "ok"), ("overlap a b", "1/4"),
                ("turn a flip 0", "ok"), ("overlap a b", "1/4"), ("turn b mix 0; mix 1", "ok"), ("overlap b a", "0"),
                ("list a", "0 1 0 0"), ("list b", "1 0 0 0")))

    def test_ties(self):
        for way in WAYS:
            self.told(desk_with(f"coins a 3 {way}", "turn a mix 0; follow 0 2"), (
                ("ties a 000", "0"), ("ties a 100", "1"), ("ties a 010", "0"), ("ties a 001", "1"), ("ties a 110", "1"),
                ("ties a 101", "0"), ("ties a 011", "1"), ("ties a 111", "0"), ("rows a", "+x.x +z.z +.z.")))

    def test_part(self):
        for line, wanted in (
                ("part 1  / ", "none"), ("part 6  / ", "none"), ("part 1 mix 0 / mix 0", "none"),
                ("part 2 swap 0 1 / follow 0 1; follow 1 0; follow 0 1", "none"), ("part 1 mix 0; mix 0 / ", "none"),
                ("part 1  / flip 0; flip 0", "none"), ("part 1 flip 0 / mix 0; sign 0; mix 0", "none"),
                ("part 1  / flip 0", "0"), ("part 1 flip 0 / ", "0"), ("part 1 sign 0 / ", "+"),
                ("part 1  / sign 0", "+")):
            self.assertEqual(Desk().say(line), wanted, line)
        for coins, one, other in ((1, "mix 0", ""), (2, "follow 0 1", "follow 1 0"), (6, "swap 0 5", "swap 5 4"),
                                  (3, "meet 0 1", "meet 1 2"), (4, "flip 3", "sign 3")):
            self.assertEqual(self.beside(Desk(), PlainDesk(), f"part {coins} {one} / {other}"), "part")

    def test_mend(self):
        five = "+xzzx. +.xzzx +x.xzz +zx.xz"
        for line, wanted in (
                ("mend 1 0 +. ", "+."), ("mend 6 0 -...... ", "+......"), ("mend 3 0 +... +zz. +.zz", "+..."),
                ("mend 5 0 -..... " + five, "+....."), ("mend 2 1 +.. +xx +zz", "+.."), ("mend 2 2 +xx -xx +zz", "+.."),
                ("mend 2 2 -zz -xx -zz", "+..")):
            self.assertEqual(Desk().say(line), wanted, line)
        for at, letter, sign in product(range(5), "xyz", "+-"):
            turn = "." * at + letter + "." * (4 - at)
            self.assertEqual(Desk().say(f"mend 5 1 {sign}{turn} {five}"), "+" + turn)

    def test_what_stands_has_no_part_in_part_and_mend(self):
        desk = desk_with("coins a 2 long", "turn a mix 0")
        before = everything(desk)
        self.told(desk, (("part 1  / flip 0", "0"), ("mend 2 1 +.. +xx +zz", "+.."), ("list a", "1 1 0 0")))
        self.assertEqual(everything(desk), before)

    def test_answers_are_texts(self):
        desk = desk_with("coins a 2 long", "coins b 2 short")
        for line in ("coins c 1 long", "turn a mix 0", "turn b ", "look a +z. 1", "look b +x. 0", "chance a +z.",
                     "list a", "list b", "rows a", "rows b", "overlap a b", "ties a 10", "part 1  / ",
                     "part 1 mix 0 / ", "mend 1 0 +. ", "drop c"):
            self.assertIs(desk.say(line).__class__, str, line)


class Names(DeskTest):
    def test_one_to_eight_small_letters(self):
        desk = Desk()
        for way, name in product(WAYS, ("a", "z", "ab", "abcdefgh", "zzzzzzzz", "qwertyui", "m", "aaaaaaa")):
            self.told(desk, ((f"coins {name} 1 {way}", "ok"), (f"turn {name} flip 0", "ok"), (f"list {name}", "0 1"),
                             (f"rows {name}", "-z"), (f"overlap {name} {name}", "1"), (f"drop {name}", "ok")))

    def test_the_desks_own_words(self):
        words = ("coins", "drop", "turn", "look", "chance", "list", "rows", "overlap", "ties", "part", "mend", "long",
                 "short", "ok", "none", "mix", "flip", "follow", "x", "y", "z", "say", "name", "gates")
        for way in WAYS:
            desk = Desk()
            for at, word in enumerate(words):
                self.told(desk, ((f"coins {word} {1 + at % 6} {way}", "ok"), (f"turn {word} flip 0", "ok")))
            for at, word in enumerate(words):
                self.told(desk, ((f"list {word}", "0 1" + " 0" * (2 ** (1 + at % 6) - 2)), (f"drop {word}", "ok")))
                self.refused(desk, f"list {word}", NoName)

    def test_what_is_no_name(self):
        desk = desk_with("coins a 1 long", "coins abcdefgh 1 short")
        for name in ("", "A", "aB", "a1", "1", "0", "abcdefghi", "abcdefghijkl", "a" * 30, "a-b", "a_b", "a.", "+z",
                     "/", "a\n", "\na", "a\nb", "\n", "*", "'a'", "~", "ABC", "abcdefgH", "a;", "Long", "a\t"):
            for line in ("coins {} 1 long", "coins {} 1 short", "drop {}", "turn {} ", "turn {} flip 0", "look {} +z 0",
                         "chance {} +z", "list {}", "rows {}", "overlap {} a", "overlap a {}", "ties {} 1"):
                self.refused(desk, line.replace("{}", name), NoName)

    def test_by_which_nothing_stands(self):
        desk = desk_with("coins a 1 long", "coins abcdefgh 1 short")
        for name in ("b", "aa", "abcdefg", "abcdefgi", "coins", "list"):
            for line in ("drop {}", "turn {} ", "turn {} flip 0", "look {} +z 0", "chance {} +z", "list {}", "rows {}",
                         "overlap {} a", "overlap a {}", "overlap {} {}", "ties {} 1"):
                self.refused_and_nothing_changed(desk, line.replace("{}", name), NoName)


NO_LINES = (
    "", " ", "  ", "\n", "a", "say", "Coins a 1 long", "COINS a 1 long", "coin a 1 long", "coins\n a 1 long",
    "\ncoins a 1 long", " coins a 1 long", "coins", "coins ", "coins a", "coins a 1", "coins a 1 ", "coins a 1 Long",
    "coins a 1 LONG", "coins a 1 longer", "coins a 1 lon", "coins a 1 long ", "coins a 1 long\n", "coins a 1 \nlong",
    "coins a 1 long short", "coins a  1 long", "coins  a 1 long", "coins a 1  long", "coins a 1 0",
    "coins a 1 short ", "coins a long 1", "coins a\n1 long", "drop", "drop a ", "drop  a", "drop a b", " drop a",
    "Drop a", "drop\na", "turn", "turn a", "turn\na mix 0", "turn\n", "turna mix 0", "look", "look a", "look a +z",
    "look a +z 0 ", "look a +z 0 1", "look  a +z 0", "look a  +z 0", "look a +z  0", "look a +z\n0", " look a +z 0",
    "chance", "chance a", "chance a +z ", "chance a +z 0", "chance  a +z", "chance a  +z", "list", "list a ",
    "list  a", "list a b", "list\na", "rows", "rows a ", "rows  a", "rows a b", "overlap", "overlap a",
    "overlap a a ", "overlap  a a", "overlap a  a", "overlap a a a", "ties", "ties a", "ties a 1 ", "ties  a 1",
    "ties a  1", "ties a 1 0", "part", "part 1", "part 1 ", "part 1 mix 0", "part 1 mix 0 ", "part 1 mix 0 /",
    "part 1 /", "part 1 / ", "part 1 / mix 0", "part 1  /", "part 1 mix 0/mix 0", "part 1 mix 0 /mix 0",
    "part 1 mix 0/ mix 0", "part 1 mix 0 // mix 0", "part 1 mix 0 \\ mix 0", "part 1 mix 0 /\nmix 0",
    "part 1 mix 0\n/ mix 0", "part 1 mix 0 | mix 0", "part / ", "part  / ", "part /  /", "part 1 / /",
    "part 1/ mix 0", "part\n1  / ", "mend", "mend 1", "mend 1 0", "mend 1 0 +.", "mend\n1 0 +. ", "mend 1 0\n+. ",
    " mend 1 0 +. ", "quit", "help", "show a", "#", "/", "0", "+z", "mix 0", "ok")


class NoLines(DeskTest):
    def test_other_lines(self):
        for way in WAYS:
            desk = desk_with(f"coins a 1 {way}", f"coins b 2 {way}", "turn a flip 0")
            before = everything(desk)
            for line in NO_LINES:
                self.refused(desk, line, NoLine)
                self.assertFalse([kind for kind, form in FORMS.items() if form.fullmatch(line)], line)
            self.assertEqual(everything(desk), before)

    def test_on_a_new_desk(self):
        for line in NO_LINES:
            self.refused(Desk(), line, NoLine)

    def test_numbers_of_words(self):
        desk = desk_with("coins a 1 long")
        for kind, many in (("coins", 4), ("drop", 2), ("look", 4), ("chance", 3), ("list", 2), ("rows", 2),
                           ("overlap", 3), ("ties", 3)):
            for words in range(1, 8):
                if words != many:
                    for word in ("a", "", "0", "long"):
                        self.refused(desk, " ".join([kind] + [word] * (words - 1)), NoLine)
        for kind, fewest in (("turn", 3), ("mend", 5)):
            for words in range(1, fewest):
                for word in ("a", "", "0"):
                    self.refused(desk, " ".join([kind] + [word] * (words - 1)), NoLine)

    def test_ahead_of_all_else(self):
        desk = desk_with("coins a 2 long")
        for line in ("coins A 9 longer", "coins A 9", "coins  9 way", "coins a x y", "drop A B", "drop nothing ",
                     "turn A", "turn nothing", "look A +q", "look nothing +q 2 2", "chance A +q 0", "list A ",
                     "rows b ", "overlap A B C", "overlap x", "ties A 22 2", "part 9 mix 9", "part x mix 7 /",
                     "part 0 turn 0 /mix 0", "mend 9 9 +q", "mend x", "mend 2 9 -yyyy", "coins A 9 long ",
                     "coins a 2 longshort"):
            self.refused_and_nothing_changed(desk, line, NoLine)


class NoTexts(DeskTest):
    def test_coins(self):
        desk = desk_with("coins a 2 long", "coins b 2 short", "turn a flip 0")
        before = everything(desk)
        for coins in ("0", "7", "8", "9", "10", "00", "01", "1.", "-1", "+1", "", "x", "one", "1\n", "\n1", "1_", "~"):
            for line in (f"coins a {coins} long", f"coins b {coins} short", f"coins c {coins} long",
                         f"part {coins}  / ", f"part {coins} mix 0 / ", f"mend {coins} 0 +. ",
                         f"mend {coins} 1 +.. +xx +zz"):
                self.refused(desk, line, NoText)
        self.assertEqual(everything(desk), before)

    def test_gates(self):
        for way in WAYS:
            desk = desk_with(f"coins a 3 {way}", "turn a mix 0")
            before = everything(desk)
            for gates in (" ", "mix", "mix 0 ", " mix 0", "mix  0", "mix 0\n", "\n", "mix 0;flip 1", "mix 0 ; flip 1",
                          "mix 0; ", "; mix 0", "mix 0;  flip 1", "mix 00", "mix 10", "mix a", "mix 0 1", "follow 0",
                          "follow 0 1 2", "Mix 0", "mixed 0", "mix 0\nflip 1", "mix 0;\nflip 1", "/", " / ", "none"):
                self.refused(desk, f"turn a {gates}", NoText)
                if " / " not in gates:
                    self.refused(desk, f"part 3 {gates} / ", NoText)
                    self.refused(desk, f"part 3 mix 0 / {gates}", NoText)
                    self.refused(desk, f"part 3 {gates} / {gates}", NoText)
            self.assertEqual(everything(desk), before)

    def test_rows_looked_at(self):
        for way in WAYS:
            desk = desk_with(f"coins a 3 {way}", "turn a mix 0")
            before = everything(desk)
            for row in ("", "+", "-", "...", "+..", "+....", "+xz", "-xzxz", "+X..", "+..a", "+...\n", "\n+...",
                        "+..\n", "*...", "x..", "+x.0", "++..", "+......", "+.......", "0", "~~~~"):
                for line in (f"look a {row} 0", f"look a {row} 1", f"chance a {row}"):
                    self.refused(desk, line, NoText)
            self.assertEqual(everything(desk), before)

    def test_a_sign_for_each_coin(self):
        for way, coins in product(WAYS, COIN_COUNTS):
            desk = desk_with(f"coins a {coins} {way}")
            for many in range(0, 9):
                lines = [f"look a +{'z' * many} 0", f"chance a -{'.' * many}", f"ties a {'1' * many}",
                         f"ties a {'0' * many}", f"mend {coins} 0 +{'.' * many} "]
                if many != coins:
                    lines += [f"mend {coins} 0 +{'.' * coins} +{'z' * many}"]
                    for line in lines:
                        self.refused(desk, line, NoText)
                else:
                    for line in lines:
                        desk.say(line)

    def test_wishes(self):
        for way in WAYS:
            desk = desk_with(f"coins a 1 {way}", "turn a mix 0")
            for wish in ("", "2", "3", "9", "-1", "+1", "00", "01", "10", "x", "none", "0\n", "\n0", "1\n", "0."):
                self.refused_and_nothing_changed(desk, f"look a +z {wish}", NoText)
            self.told(desk, (("look a +z 1", "1 1/2"), ("look a +x 0", "0 1/2")))

    def test_parts(self):
        for way in WAYS:
            desk = desk_with(f"coins a 3 {way}")
            for part in ("", "0", "00", "0000", "1111", "002", "x..", "+..", "00\n", "000\n", "\n00", "+00", "0.0",
                         "aaa", "-10", "0b1", "1_1"):
                self.refused(desk, f"ties a {part}", NoText)

    def test_overlap_of_unlike_many_coins(self):
        for one, other in product(COIN_COUNTS, repeat=2):
            for way, other_way in product(WAYS, repeat=2):
                desk = desk_with(f"coins a {one} {way}", f"coins b {other} {other_way}")
                if one == other:
                    self.assertEqual(desk.say("overlap a b"), "1")
                else:
                    self.refused(desk, "overlap a b", NoText)
                    self.refused(desk, "overlap b a", NoText)

    def test_mend(self):
        desk = Desk()
        for many in ("", "3", "4", "9", "-1", "00", "01", "10", "x", "1\n", "\n1", "0."):
            self.refused(desk, f"mend 3 {many} +... ", NoText)
        for turn in ("", "+", "...", "+..", "+....", "+X..", "+...\n", "\n+...", "0"):
            self.refused(desk, f"mend 3 2 {turn} ", NoText)
        for checks in (" ", "  ", "+zz. ", " +zz.", "+zz.  +.zz", "+zz. +.zz ", "+zz.\n", "+zz.\n+.zz", "\n", "+zz",
                       "+zz..", "zz.", "+zz. +.z", "+zz.; +.zz", "+ZZ.", "/", "none", "+zz.+.zz"):
            self.refused(desk, f"mend 3 0 +... {checks}", NoText)

    def test_wrong_turns_with_more_letters(self):
        desk = Desk()
        for coins in COIN_COUNTS:
            checks = " ".join("+" + "." * coin + "z" + "." * (coins - coin - 1) for coin in range(coins))
            for many, letter in product((0, 1, 2), "xyz"):
                for letters in range(coins + 1):
                    line = f"mend {coins} {many} -{letter * letters}{'.' * (coins - letters)} {checks}"
                    if letters > many:
                        self.refused(desk, line, NoText)
                    else:
                        self.assertEqual(self.beside(desk, PlainDesk(), line), "mend")


class AsTheStagesTell(DeskTest):
    def test_gates(self):
        for way in WAYS:
            desk = desk_with(f"coins a 2 {way}", "turn a mix 0; follow 0 1")
            for gates, at in (("mix 2", 0), ("mix 9", 0), ("follow 0 0", 0), ("follow 1 2", 0), ("mix 0; flip 2", 1),
                              ("mix 0; flip 1; swap 1 1; mix 7", 2), ("meet 5 5", 0), ("swap 2 0", 0),
                              ("; ".join(["mix 0"] * 39 + ["sign 6"]), 39)):
                self.refused_and_nothing_changed(desk, f"turn a {gates}", NoGate, at=at)

    def test_gates_of_part(self):
        desk = Desk()
        for one, other, at in (
                ("mix 2", "", 0), ("", "mix 2", 0), ("mix 0; mix 2", "mix 3", 1), ("mix 0", "flip 0; mix 5", 1),
                ("mix 0; mix 1; mix 2", "mix 2", 2), ("mix 2", "mix 0; mix 2", 0), ("swap 1 1", "swap 0 1", 0),
                ("swap 0 1", "flip 0; flip 1; swap 1 1", 2)):
            self.refused(desk, f"part 2 {one} / {other}", NoGate, at=at)

    def test_looks(self):
        for way in WAYS:
            desk = desk_with(f"coins a 3 {way}", "turn a mix 0; follow 0 1")
            for row in ("+y..", "-..y", "+yyy", "-yxz", "+xzy"):
                for line in (f"look a {row} 0", f"look a {row} 1", f"chance a {row}"):
                    self.refused_and_nothing_changed(desk, line, NoLook)
            self.told(desk, (("chance a +yy.", "1"), ("chance a -y.y", "1/2"), ("chance a -yy.", "0")))

    def test_codes(self):
        desk = Desk()
        for line in ("mend 1 0 +. +z +z", "mend 1 0 +. +z +x", "mend 2 0 +.. +zz +xx +yy", "mend 1 1 +x +y +y +y",
                     "mend 6 0 +......" + " +z....." * 7, "mend 2 0 +.. +.. +.. +..", "mend 3 0 +..." + " +zzz" * 9):
            self.refused(desk, line, NoCode)

    def test_checks_that_do_not_stand_free(self):
        desk = Desk()
        for line, which in (
                ("mend 1 0 +. +y", [0]), ("mend 1 0 -. +.", [0]), ("mend 2 0 +.. +z. +y.", [1]),
                ("mend 2 0 +.. +x. +z.", [0, 1]), ("mend 3 0 +... +x.. +z.. +yyy", [2]),
                ("mend 3 2 +... +..z +x.. +z..", [1, 2]), ("mend 2 1 +.. +zz -zz", [0, 1]),
                ("mend 3 1 +x.. +zz. +.zz -z.z", [0, 1, 2]), ("mend 2 2 +xx -.. +zz", [0]),
                ("mend 5 1 +x.... +xzzx. +.xzzx +x.xzz +zx.xz +zzx.x", [0, 1, 2, 3, 4])):
            self.refused(desk, line, NotFree, which=which)

    def test_what_cannot_be_mended(self):
        desk = desk_with("coins a 3 long")
        for coins, many, turn, checks in ((3, 1, "+x..", "+zz. +.zz"), (3, 1, "+...", "+zz. +.zz"), (1, 1, "+.", ""),
                                          (4, 1, "-...z", "+xxxx +zzzz"), (6, 2, "+......", ""),
                                          (5, 2, "+xx...", "+xzzx. +.xzzx +x.xzz +zx.xz")):
            refusal = self.refused_and_nothing_changed(desk, f"mend {coins} {many} {turn} {checks}", CantMend)
            rows = rows_from_texts(checks)
            self.assertIn(refusal.one, turns_with(coins, many))
            self.assertIn(refusal.other, turns_with(coins, many))
            self.assertEqual(plain_marks(rows, refusal.one, coins), plain_marks(rows, refusal.other, coins))
            self.assertNotIn(plain_product(refusal.one, refusal.other)[1:], plain_harmless(rows))


class TwoFaults(DeskTest):
    def test_words_from_the_left(self):
        desk = desk_with("coins a 2 long", "coins b 3 short")
        for line, kind in (
                ("coins A 9 long", NoName), ("coins  0 short", NoName), ("coins a 9 long", NoText),
                ("turn A mix", NoName), ("turn c mix", NoName), ("turn c mix 9", NoName), ("turn  ", NoName),
                ("turn a mix 9; mix", NoText), ("turn a mix; mix 9", NoText), ("turn a follow 0 0; flip 10", NoText),
                ("look A +q 2", NoName), ("look c +yy 2", NoName), ("look c +yy 0", NoName), ("look a +y 0", NoText),
                ("look a +y. 2", NoText), ("look a +y.. 1", NoText), ("look a +y. 1", NoLook), ("look b +y. 1", NoText),
                ("chance A +q", NoName), ("chance c +y.", NoName), ("chance a +y..", NoText), ("chance a +y.", NoLook),
                ("overlap A c", NoName), ("overlap c a", NoName), ("overlap a C", NoName), ("overlap b c", NoName),
                ("overlap a b", NoText), ("ties C 2", NoName), ("ties c 2", NoName), ("ties a 2", NoText),
                ("part 9 mix 9 / mix 9", NoText), ("part 2 mix 9 / mix", NoText), ("part 2 mix / mix 9", NoText),
                ("part 2 mix 9 / mix 10", NoText), ("part 2 swap 0 0 / flip 0;", NoText),
                ("part 2 mix 9 / mix 9", NoGate), ("part x mix 0 / ", NoText), ("part  mix 9 / ", NoText),
                ("mend 9 0 +. +y", NoText), ("mend 1 3 +. +y", NoText), ("mend 1 0 +x +y", NoText),
                ("mend 1 0 +. +y +yy", NoText), ("mend 1 0 +. +y +", NoText), ("mend 1 0 +x +y +y", NoText),
                ("mend 1 0 +. +y +y", NoCode), ("mend 1 1 +x +x +z", NoCode), ("mend 1 1 +x +y", NotFree),
                ("mend 2 1 +x. +zz -zz", NotFree), ("mend 2 1 +x. +zz", CantMend), ("mend 2 1 +xx +zz", NoText),
                ("mend 2 2 +xx +zz +zz +zz", NoCode), ("mend 2 2 +xx +zz +zx", NotFree)):
            self.refused_and_nothing_changed(desk, line, kind)

    def test_the_gates_of_the_one_ahead_of_those_of_the_other(self):
        for one, other, at in (("mix 0; mix 1; mix 2", "mix 5", 2), ("mix 1", "mix 0; mix 1; mix 9", 0)):
            self.refused(Desk(), f"part {1 if at == 0 else 2} {one} / {other}", NoGate, at=at)


class EmptyEnds(DeskTest):
    def test_turn_by_no_gates(self):
        for way in WAYS:
            desk = desk_with(f"coins a 2 {way}", "turn a mix 0; sign 0; follow 0 1")
            before = everything(desk)
            self.assertEqual(desk.say("turn a "), "ok")
            self.assertEqual(everything(desk), before)
            self.refused(desk, "turn a", NoLine)
            self.refused(desk, "turn a  ", NoText)
            self.refused(desk, "turn a \n", NoText)
            self.refused(desk, "turn  mix 0", NoName)
            self.refused(desk, "turn ", NoLine)

    def test_mend_without_checks(self):
        desk = Desk()
        for coins in COIN_COUNTS:
            none = "." * coins
            self.assertEqual(desk.say(f"mend {coins} 0 +{none} "), "+" + none)
            self.refused(desk, f"mend {coins} 0 +{none}", NoLine)
            self.refused(desk, f"mend {coins} 0 +{none}  ", NoText)
            self.refused(desk, f"mend {coins} 1 +{none} ", CantMend)

    def test_part_without_gates(self):
        desk = Desk()
        for coins in COIN_COUNTS:
            self.assertEqual(desk.say(f"part {coins}  / "), "none")
            self.assertEqual(self.beside(desk, PlainDesk(), f"part {coins} flip 0 / "), "part")
            self.assertEqual(self.beside(desk, PlainDesk(), f"part {coins}  / sign 0"), "part")
            self.assertNotEqual(desk.say(f"part {coins}  / flip 0"), "none")
            for line in (f"part {coins} / ", f"part {coins}  /", f"part {coins} /", f"part {coins}", f"part {coins} "):
                self.refused(desk, line, NoLine)
            for line in (f"part {coins}   / ", f"part {coins}  /  ", f"part {coins} \n / ", f"part {coins}  / \n"):
                self.refused(desk, line, NoText)

    def test_the_word_more_than_once(self):
        desk = Desk()
        for line in ("part 1 mix 0 / mix 0 / mix 0", "part 1  /  / ", "part 1 mix 0 / / mix 0", "part 1  / /",
                     "part 1 / / ", "part 1 / mix 0 / ", "part 1 mix 0 / /", "part / mix 0 / mix 0", "part / / / ",
                     "part 1 / / / /"):
            self.refused(desk, line, NoText)
        for line in ("part 1 / /", "part 1 /", "part 1 / /mix 0", "part / /", "part / / "):
            self.refused(desk, line, NoLine)
        # The first such word parts the two, so what is wrong stands behind it.
        self.refused(desk, "part 1 mix 5 / mix 0 / mix 0", NoText)


class TwoDesks(DeskTest):
    def test_nothing_in_common(self):
        one, other = Desk(), Desk()
        self.told(one, (("coins a 1 long", "ok"),))
        self.refused(other, "list a", NoName)
        self.told(other, (("coins a 2 short", "ok"), ("turn a flip 1", "ok")))
        self.told(one, (("list a", "1 0"), ("turn a flip 0", "ok"), ("list a", "0 1")))
        self.told(other, (("list a", "0 0 1 0"), ("drop a", "ok")))
        self.told(one, (("list a", "0 1"), ("rows a", "-z")))
        self.refused(other, "list a", NoName)
        self.refused(Desk(), "list a", NoName)

    def test_other_lines_by_turns(self):
        desks = [(Desk(), PlainDesk(), Lines(seed)) for seed in range(3)]
        for times in range(250):
            for desk, plain, lines in desks:
                self.beside(desk, plain, lines.drawn())
        for desk, plain, lines in desks:
            for name in sorted(plain.kept):
                self.beside(desk, plain, f"list {name}")
                self.beside(desk, plain, f"rows {name}")


class Lines:
    """Lines drawn from a fixed run of numbers: most of them good, the others with a fault or two."""

    NAMES = ("a", "b", "c", "d", "abcdefgh")
    FAULTS = ("", "A", "z", "abcdefghi", "0", "7", "10", "+", "+y", "2", "long", "/", "\n", "mix", " ", "0 ", "+z +z")

    def __init__(self, seed, most_coins=4):
        self.numbers = Numbers(seed)
        self.most = most_coins
        self.many = {}

    def drawn(self):
        kind = self.numbers.choice(("coins", "coins", "turn", "turn", "turn", "look", "look", "chance", "list", "rows",
                                    "overlap", "ties", "part", "mend", "drop"))
        words = [kind] + getattr(self, kind)()
        if self.numbers.below(5) == 0:
            at = self.numbers.below(len(words))
            words[at:at + self.numbers.below(2)] = [self.numbers.choice(self.FAULTS)]
        elif kind == "coins":
            self.many[words[1]] = int(words[2])
        return " ".join(words)

    def name(self):
        return self.numbers.choice(self.NAMES)

    def figure(self):
        return str(1 + self.numbers.below(self.most))

    def gates(self, coins, many):
        # Now and then one more coin is thought to be there, so that some gates can't be used.
        coins = coins + (self.numbers.below(6) == 0)
        return gates_text([self.gate(coins) for times in range(self.numbers.below(many))])

    def gate(self, coins):
        # Few of all gates mix, and without these no coin lies both ways.
        return self.numbers.choice(all_gates(coins)) if self.numbers.below(3) else ("mix", self.numbers.below(coins))

    def row(self, coins, letters=6):
        row = any_row(coins, self.numbers)
        while letters_many(row) > letters:
            row = any_row(coins, self.numbers)
        return row_text(row, coins)

    def coins(self):
        return [self.name(), self.figure(), self.numbers.choice(WAYS)]

    def turn(self):
        name = self.name()
        return [name, self.gates(self.many.get(name, 2), 7)]

    def look(self):
        name = self.name()
        return [name, self.row(self.many.get(name, 2)), str(self.numbers.below(2))]

    def chance(self):
        return self.look()[:2]

    def list(self):
        return [self.name()]

    rows = drop = list

    def overlap(self):
        return [self.name(), self.name()]

    def ties(self):
        name = self.name()
        return [name, "".join(self.numbers.choice("01") for coin in range(self.many.get(name, 2)))]

    def part(self):
        coins = 1 + self.numbers.below(3)
        return [str(coins), self.gates(coins, 4), "/", self.gates(coins, 4)]

    def mend(self):
        coins, many = 1 + self.numbers.below(self.most), self.numbers.below(3)
        checks = free_rows(coins, self.numbers.below(coins + 1), self.numbers.below(50))
        if self.numbers.below(6) == 0:
            checks.append(any_row(coins, self.numbers))
        return [str(coins), str(many), self.row(coins, many), " ".join(row_text(row, coins) for row in checks)]


class Drawn(DeskTest):
    def walk(self, seed, many, most_coins):
        desk, plain, lines, seen = Desk(), PlainDesk(), Lines(seed, most_coins), {}
        for times in range(many):
            line = lines.drawn()
            told = self.beside(desk, plain, line)
            seen[told] = seen.get(told, 0) + 1
        return seen

    def test_drawn_lines_against_the_other_telling(self):
        seen = {}
        for seed in range(6):
            for key, many in self.walk(10 + seed, 500, 4).items():
                seen[key] = seen.get(key, 0) + many
        self.assertEqual(set(seen), set(FORMS) | {"NoLine", "NoName", "NoText", "NoGate", "NoLook", "NoCode", "NotFree",
                                                  "CantMend"})
        self.assertGreater(min(seen.values()), 5, seen)

    def test_drawn_lines_with_up_to_six_coins(self):
        for seed in range(3):
            self.walk(50 + seed, 250, 6)

    def test_one_sign_otherwise_at_any_place(self):
        seen = {}
        for line in ("coins a 2 long", "coins b 2 short", "drop a", "turn a mix 0; swap 0 1", "turn b ", "look a +zz 1",
                     "look b -x. 0", "chance b +z.", "list a", "rows b", "overlap a b", "ties a 10",
                     "part 2 mix 0 / flip 1", "part 1  / ", "mend 2 1 +x. +xx +zz", "mend 1 0 -. "):
            desk, plain = Desk(), PlainDesk()
            for other in with_one_sign_otherwise(line, " /;\n+-.xyzabAL01279"):
                for again in ("coins a 2 long", "coins b 2 short", "turn a mix 0; follow 0 1", "turn b mix 1"):
                    self.beside(desk, plain, again)
                told = self.beside(desk, plain, other)
                seen[told] = seen.get(told, 0) + 1
        self.assertLessEqual(set(FORMS) | {"NoLine", "NoName", "NoText", "NoGate", "NoLook"}, set(seen))

    def test_behind_a_refused_line_everything_answers_as_before(self):
        desk, lines, seen = Desk(), Lines(90, 3), {}
        for times in range(600):
            line = lines.drawn()
            before = everything(desk, Lines.NAMES)
            told = answer(desk, line)
            if not isinstance(told, str) or line.split(" ")[0] not in ("coins", "turn", "look", "drop"):
                self.assertEqual(everything(desk, Lines.NAMES), before, line)
                seen[told.__class__ if isinstance(told, str) else told] = True
        self.assertLessEqual({str, NoLine, NoName, NoText, NoGate, NoLook}, set(seen))


if __name__ == "__main__":
    unittest.main()
