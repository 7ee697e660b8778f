"""What several tests need: lists, rows and gates to try, and the document's own words on them, told another way."""

from fractions import Fraction
from functools import lru_cache
from itertools import combinations, product
from math import gcd

COIN_COUNTS = (1, 2, 3, 4, 5, 6)
ONE_COIN_WORDS = ("mix", "flip", "sign")
TWO_COIN_WORDS = ("follow", "meet", "swap")
GREAT = 10 ** 30
WRONG_LENGTHS = (0, 1, 3, 5, 6, 7, 9, 12, 15, 17, 24, 31, 33, 48, 63, 65, 96, 127, 128, 256)


class Numbers:
    """The same run of numbers for the same seed, on every Python."""

    def __init__(self, seed):
        self.state = 2 * seed + 1

    def below(self, bound):
        drawn = 0
        reach = 1
        while reach < bound * 2 ** 16:
            self.state = (self.state * 6364136223846793005 + 1442695040888963407) % 2 ** 64
            drawn = drawn * 2 ** 32 + self.state // 2 ** 32
            reach *= 2 ** 32
        return drawn % bound

    def between(self, low, high):
        return low + self.below(high - low + 1)

    def choice(self, things):
        return things[self.below(len(things))]


def lists_to_try(coins, seed=0):
    """Lists of so many coins: one number alone, small, sparse, with a common divisor, and great ones."""
    numbers = Numbers(1000 * seed + coins)
    length = 2 ** coins
    tried = [[number if place == at else 0 for place in range(length)] for at in (0, length - 1) for number in (1, -3)]
    tried.append([1] * length)
    tried.append([-2] * length)
    tried.append([place + 1 for place in range(length)])
    for reach in (1, 9, GREAT):
        tried.append([numbers.between(-reach, reach) for place in range(length)])
        sparse = [0] * length
        for times in range(max(1, length // 8)):
            sparse[numbers.below(length)] = numbers.between(1, reach) * numbers.choice((1, -1))
        tried.append(sparse)
    tried.append([6 * numbers.between(-9, 9) for place in range(length)])
    tried.append([GREAT] + [-GREAT] * (length - 1))
    tried.append([-GREAT] + [GREAT - 1] * (length - 1))
    return [one for one in tried if any(one)]


def all_gates(coins):
    gates = [(word, coin) for word in ONE_COIN_WORDS for coin in range(coins)]
    for word in TWO_COIN_WORDS:
        gates += [(word, one, other) for one in range(coins) for other in range(coins) if one != other]
    return gates


def row_of_gates(coins, many, seed):
    numbers = Numbers(seed)
    gates = all_gates(coins)
    return [numbers.choice(gates) for times in range(many)]


def plain_least(numbers):
    divisor = gcd(*numbers)
    first = next(number for number in numbers if number)
    return [number // divisor * (1 if first > 0 else -1) for number in numbers]


def plain_overlap(one, other):
    both = sum(a * b for a, b in zip(one, other))
    return Fraction(both ** 2, sum(a * a for a in one) * sum(b * b for b in other))


def by_sides(numbers):
    """A dict from how all coins lie, coin 0 first (0 face, 1 back), to the number."""
    coins = len(numbers).bit_length() - 1
    return {sides: numbers[sum(side * 2 ** coin for coin, side in enumerate(sides))]
            for sides in product((0, 1), repeat=coins)}


def by_places(table):
    numbers = [None] * len(table)
    for sides, number in table.items():
        numbers[sum(side * 2 ** coin for coin, side in enumerate(sides))] = number
    return numbers


def laid_so(sides, coin, side):
    return sides[:coin] + (side,) + sides[coin + 1:]


def change_places(table, pairs):
    for one, other in pairs:
        table[one], table[other] = table[other], table[one]


def raw_turned(numbers, gate):
    """What point 5 says, pair of places by pair of places, over a table of how the coins lie; not in least form."""
    table = by_sides(numbers)
    word, coins = gate[0], gate[1:]
    last = coins[-1]
    pairs = [(sides, laid_so(sides, last, 1)) for sides in table if sides[last] == 0]
    if word == "mix":
        for face, back in pairs:
            a, b = table[face], table[back]
            table[face], table[back] = a + b, a - b
    elif word == "flip":
        change_places(table, pairs)
    elif word == "sign":
        for face, back in pairs:
            table[back] = -table[back]
    elif word == "follow":
        change_places(table, [pair for pair in pairs if pair[0][coins[0]] == 1])
    elif word == "meet":
        for sides in table:
            if sides[coins[0]] == 1 and sides[coins[1]] == 1:
                table[sides] = -table[sides]
    elif word == "swap":
        alone = [sides for sides in table if sides[coins[0]] == 1 and sides[coins[1]] == 0]
        change_places(table, [(sides, laid_so(laid_so(sides, coins[0], 0), coins[1], 1)) for sides in alone])
    return by_places(table)


def plain_turned(numbers, gate):
    return plain_least(raw_turned(numbers, gate))


def raw_turned_by(numbers, gates):
    for gate in gates:
        numbers = raw_turned(numbers, gate)
    return numbers


def unit_lists(coins):
    return [[1 if place == at else 0 for place in range(2 ** coins)] for at in range(2 ** coins)]


def whole_turning(coins, gates):
    """What a row of gates makes of each list with a single 1, one behind the other, but for what all are times."""
    return plain_least([number for numbers in unit_lists(coins) for number in raw_turned_by(numbers, gates)])


def all_tables_by_gates(coins, images):
    """A dict from the images of all rows of gates there are to such a row, found gate by gate; for one or two coins."""
    found = {tuple(images(coins, [])): []}
    coming = list(found)
    while coming:
        further = []
        for table in coming:
            for gate in all_gates(coins):
                other = tuple(images(coins, found[table] + [gate]))
                if other not in found:
                    found[other] = found[table] + [gate]
                    further.append(other)
        coming = further
    return found


def all_rows(coins):
    return [(sign, xs, zs) for sign in (1, -1) for xs in range(2 ** coins) for zs in range(2 ** coins)]


def rows_to_try(coins, many=40, seed=0):
    """All rows of one or two coins, else some of them, those without xs, without zs and without both among them."""
    if coins <= 2:
        return all_rows(coins)
    numbers = Numbers(1000 * seed + coins)
    top = 2 ** coins - 1
    tried = [(1, 0, 0), (-1, 0, 0), (1, top, 0), (-1, 0, top), (1, top, top), (-1, top, top), (-1, 1, top), (1, top, 1)]
    return tried + [any_row(coins, numbers) for times in range(many - len(tried))]


def any_row(coins, numbers):
    return (numbers.choice((1, -1)), numbers.below(2 ** coins), numbers.below(2 ** coins))


def minus(row):
    return (-row[0], row[1], row[2])


def coins_in_common(one, other):
    return len([coin for coin in range(12) if one // 2 ** coin % 2 == 1 and other // 2 ** coin % 2 == 1])


@lru_cache(maxsize=None)
def sendings(row, coins):
    """Point 7 as a table: for each place the place that its number is sent to, and what it is multiplied with."""
    sign, xs, zs = row
    return tuple((place ^ xs, sign * (-1) ** coins_in_common(place, zs)) for place in range(2 ** coins))


def plain_laid(numbers, row):
    coming = [None] * len(numbers)
    for number, (place, times) in zip(numbers, sendings(row, len(numbers).bit_length() - 1)):
        coming[place] = times * number
    return coming


@lru_cache(maxsize=None)
def plain_product(one, other):
    """The row that is read off the two tables, walked one behind the other."""
    coins = max(1, *[bits.bit_length() for bits in one[1:] + other[1:]])
    first, then = sendings(other, coins), sendings(one, coins)
    both = [(then[place][0], times * then[place][1]) for place, times in first]
    zs = sum(2 ** coin for coin in range(coins) if both[2 ** coin][1] != both[0][1])
    return (both[0][1], both[0][0], zs)


def plain_agree(one, other):
    return plain_product(one, other) == plain_product(other, one)


def plain_even(row):
    return plain_product(row, row) == (1, 0, 0)


def product_in_order(rows):
    coming = (1, 0, 0)
    for row in rows:
        coming = plain_product(coming, row)
    return coming


def subsets(many):
    """All sets of numbers below so many, as rising lists, the small ones first."""
    return [list(which) for size in range(many + 1) for which in combinations(range(many), size)]


def plain_products(rows):
    """All products of free rows: a dict from the product to the numbers of the rows that it is made of."""
    return {product_in_order([rows[at] for at in which]): which for which in subsets(len(rows))}


def no_letters(row):
    return row[1:] == (0, 0)


def stands_free(rows):
    if not all(plain_even(row) for row in rows):
        return False
    if not all(plain_agree(one, other) for one, other in combinations(rows, 2)):
        return False
    return not any(no_letters(product_in_order([rows[at] for at in which])) for which in subsets(len(rows))[1:])


def free_rows(coins, many, seed=0):
    """So many free rows, drawn one by one and kept where they may stand beside those before."""
    numbers = Numbers(10000 * seed + 100 * coins + many)
    kept, products = [], [(1, 0, 0)]
    while len(kept) < many:
        row = any_row(coins, numbers)
        if plain_even(row) and all(plain_agree(row, other) for other in kept):
            if row not in products and minus(row) not in products:
                kept.append(row)
                products += [plain_product(one, row) for one in products]
    return kept


def full_sets(seeds=4):
    """As many free rows as coins, of one to six coins."""
    return [free_rows(coins, coins, seed) for coins in COIN_COUNTS for seed in range(seeds)]


def multiplied_with_one_another(rows, seed=0):
    """Other free rows with the same products: some multiplied with others, and in another order."""
    numbers = Numbers(seed)
    coming = list(rows)
    for times in range(3 * len(rows)):
        one, other = numbers.below(len(rows)), numbers.below(len(rows))
        if one != other:
            coming[one] = plain_product(coming[one], coming[other])
            coming[one], coming[other] = coming[other], coming[one]
    return coming


def columns(row, coins):
    return [bits // 2 ** coin % 2 for bits in row[1:] for coin in range(coins)]


def is_least_form(rows, coins):
    leads = [columns(row, coins).index(1) for row in rows]
    alone = all(columns(row, coins)[lead] == 0 for at, lead in enumerate(leads)
                for other, row in enumerate(rows) if other != at)
    return leads == sorted(leads) and alone


def plain_least_rows(rows, coins):
    """Point 13, picked from all products: of those with a leading column the one that is 0 in the leads of others."""
    products = [row for row in plain_products(rows) if not no_letters(row)]
    leads = sorted({columns(row, coins).index(1) for row in products})
    least = []
    for lead in leads:
        least += [row for row in products if [columns(row, coins)[other] for other in leads]
                  == [1 if other == lead else 0 for other in leads]]
    return least


def list_kept_by(rows):
    """The one list in least form that all rows keep: what is left of a list with a single 1 by the rows laid on it."""
    for numbers in unit_lists(len(rows)):
        for row in rows:
            numbers = [a + b for a, b in zip(numbers, plain_laid(numbers, row))]
        if any(numbers):
            return plain_least(numbers)
    raise AssertionError(f"no list is kept by {rows}")


def keeps(row, numbers):
    return plain_laid(numbers, row) == numbers


def deeds(coins, many, seed):
    """Gates, and pairs of an even row and a wish, in whatever order."""
    numbers = Numbers(100 * seed + coins)
    gates = all_gates(coins)
    drawn = []
    while len(drawn) < many:
        row = any_row(coins, numbers)
        if numbers.below(3) < 2:
            drawn.append(("gate", numbers.choice(gates)))
        elif plain_even(row):
            drawn.append(("look", (row, numbers.below(2))))
    return drawn


class PlainCoins:
    """Coins told by a list alone, turned and looked at by the words of points 5 and 10."""

    def __init__(self, coins):
        self.coins = coins
        self.numbers = unit_lists(coins)[0]

    def turn(self, gates):
        for gate in gates:
            self.numbers = plain_turned(self.numbers, gate)

    def chance(self, row):
        sent = plain_laid(self.numbers, row)
        whole = sum(a * a for a in self.numbers)
        return Fraction(whole + sum(a * b for a, b in zip(self.numbers, sent)), 2 * whole)

    def look(self, row, wish):
        chances = (self.chance(row), 1 - self.chance(row))
        told = wish if chances[wish] > 0 else 1 - wish
        sent = plain_laid(self.numbers, row)
        self.numbers = plain_least([a - b if told else a + b for a, b in zip(self.numbers, sent)])
        return told, chances[told]

    def ties(self, part):
        return rank(table_of(self.numbers, part)).bit_length() - 1


def rows_that_keep(numbers):
    """All rows that keep a list, tried one by one: two to the power of the coins many just where it is told by rows."""
    places = range(len(numbers))
    sizes = [abs(number) for number in numbers]
    found = []
    for xs in places:
        if [sizes[place ^ xs] for place in places] == sizes:
            for zs in places:
                times = [-1 if bin(place & zs).count("1") % 2 == 1 else 1 for place in places]
                found += [(sign, xs, zs) for sign in (1, -1)
                          if all(numbers[place ^ xs] == sign * times[place] * numbers[place] for place in places)]
    return found


@lru_cache(maxsize=None)
def lists_told_by_rows(coins):
    """All lists, in least form, that gates make of the first list, found gate by gate; for one to three coins."""
    found = {tuple(unit_lists(coins)[0]): True}
    coming = list(found)
    while coming:
        ends = [tuple(plain_turned(list(numbers), gate)) for numbers in coming for gate in all_gates(coins)]
        coming = [numbers for numbers in dict.fromkeys(ends) if numbers not in found]
        found.update(dict.fromkeys(coming, True))
    return tuple(found)


def bits_at(number, places):
    """The bits of a number at so many places, put side by side."""
    return sum((number >> place & 1) << at for at, place in enumerate(places))


def table_of(numbers, part):
    """The list as a table: a line for each way in which the part's coins may lie, a column for each of the others'."""
    coins = len(numbers).bit_length() - 1
    inside = [coin for coin in range(coins) if part >> coin & 1]
    outside = [coin for coin in range(coins) if not part >> coin & 1]
    table = [[0] * 2 ** len(outside) for line in range(2 ** len(inside))]
    for place, number in enumerate(numbers):
        table[bits_at(place, inside)][bits_at(place, outside)] = number
    return table


def rank(table):
    lines = [[Fraction(number) for number in line] for line in table]
    found = 0
    for column in range(len(lines[0])):
        leads = [line for line in lines[found:] if line[column] != 0]
        if leads:
            lead = leads[0]
            others = [line for line in lines[found:] if line is not lead]
            lines[found:] = [lead] + [[a - b * line[column] / lead[column] for a, b in zip(line, lead)]
                                      for line in others]
            found += 1
    return found


LETTER_BITS = {".": (0, 0), "x": (1, 0), "z": (0, 1), "y": (1, 1)}
BITS_LETTER = {bits: letter for letter, bits in LETTER_BITS.items()}
ALL_SIGNS = "".join(chr(code) for code in range(32, 127)) + "\n"


def letters_of(row, coins):
    return "".join(BITS_LETTER[row[1] >> coin & 1, row[2] >> coin & 1] for coin in range(coins))


def row_text(row, coins):
    return ("+" if row[0] == 1 else "-") + letters_of(row, coins)


def row_from(text):
    bits = [LETTER_BITS[letter] for letter in text[1:]]
    return ({"+": 1, "-": -1}[text[0]], sum(x << coin for coin, (x, z) in enumerate(bits)),
            sum(z << coin for coin, (x, z) in enumerate(bits)))


def rows_from_texts(texts):
    return [row_from(text) for text in texts.split()]


def gates_text(gates):
    return "; ".join(" ".join(str(part) for part in gate) for gate in gates)


def with_one_sign_otherwise(text, signs=ALL_SIGNS):
    """All texts that come of one by a sign left out, put in or changed, at any place."""
    left_out = [text[:at] + text[at + 1:] for at in range(len(text))]
    put_in = [text[:at] + sign + text[at:] for at in range(len(text) + 1) for sign in signs]
    changed = [text[:at] + sign + text[at + 1:] for at in range(len(text)) for sign in signs]
    return [other for other in dict.fromkeys(left_out + put_in + changed) if other != text]


@lru_cache(maxsize=None)
def turns_with(coins, many):
    """All wrong turns with at most so many letters, with the sign 1, letter by letter."""
    texts = ["".join(signs) for signs in product(".xzy", repeat=coins)]
    return tuple(row_from("+" + text) for text in texts if coins - text.count(".") <= many)


def letters_many(row):
    return bin(row[1] | row[2]).count("1")


@lru_cache(maxsize=None)
def letters_by_bits(coins):
    return {(xs, zs): letters_of((1, xs, zs), coins) for xs in range(2 ** coins) for zs in range(2 ** coins)}


def plain_marks(checks, turn, coins):
    """Two rows disagree where an odd number of coins have letters in both, and unlike ones."""
    texts = letters_by_bits(coins)
    letters = texts[turn[1:]]
    marks = 0
    for at, check in enumerate(checks):
        unlike = [one for one, other in zip(letters, texts[check[1:]]) if "." != one != other != "."]
        marks += (len(unlike) % 2) << at
    return marks


def plain_harmless(checks):
    """The bits of all harmless wrong turns: those of all products of the checks, that of none of them too."""
    return {made[1:] for made in plain_products(checks)}


def no_rows():
    """Lists of rows that are refused with NoRows: each with one fault, and some with several."""
    wrong = [[]]
    for many in (7, 8, 12):
        wrong += [[(1, 0, 2 ** coin) for coin in range(many)], [(1, 0, 1)] * many, [(1, 0, 0)] * many,
                  [(1, 1, 1)] * many, [(5, -1, 3)] * many]
    for coins in COIN_COUNTS:
        good = [(1, 0, 2 ** coin) for coin in range(coins)]
        beyond = 2 ** coins
        faults = [(sign, 0, beyond - 1) for sign in (0, 2, -2, GREAT)] + [(0, 0, 0), (3, 1, 1)]
        faults += [(1, bits, 0) for bits in (beyond, beyond + 1, 2 * beyond, -1, -2, 10 ** 40, -GREAT)]
        faults += [(-1, 0, bits) for bits in (beyond, beyond + 1, 2 * beyond, -1, -2, 10 ** 40, -GREAT)]
        faults += [(1, beyond, beyond), (1, -1, -1), (1, beyond + 1, 1)]
        for fault in faults:
            wrong += [good[:at] + [fault] + good[at + 1:] for at in range(coins)]
    # NoRows comes ahead of NotFree, wherever the rows are that don't stand free.
    wrong += [[(1, 1, 1), (1, 0, 4)], [(1, 1, 0), (1, 0, 1), (2, 0, 4)], [(1, 0, 0), (1, 8, 0), (1, 0, 1)],
              [(1, 1, 0), (1, 1, 0), (1, 0, -1)], [(1, 2, 2)], [(1, 2, 0), (1, 1, 1), (0, 1, 1)]]
    return wrong


NOT_FREE = (
    ([(1, 1, 1)], [0]),
    ([(-1, 0, 0)], [0]),
    ([(1, 0, 0)], [0]),
    ([(1, 0, 1), (1, 2, 2)], [1]),
    ([(1, 1, 0), (1, 0, 1)], [0, 1]),
    ([(1, 1, 0), (1, 1, 0)], [0, 1]),
    ([(1, 1, 0), (-1, 1, 0)], [0, 1]),
    ([(1, 2, 0), (1, 1, 0), (1, 0, 1)], [1, 2]),
    ([(1, 2, 0), (1, 1, 0), (-1, 3, 0)], [0, 1, 2]),
    ([(1, 1, 0), (1, 0, 1), (1, 4, 4)], [2]),
    ([(1, 0, 0), (1, 2, 0), (1, 0, 2)], [1, 2]),
    ([(1, 0, 1), (1, 0, 2), (1, 0, 4), (1, 0, 8), (1, 0, 16), (1, 0, 31)], [0, 1, 2, 3, 4, 5]))


class Odd:
    """A thing of another kind that says yes to every comparison and can't stand in a dict."""

    __hash__ = None

    def __eq__(self, other):
        return True

    def __lt__(self, other):
        return True

    __le__ = __gt__ = __ge__ = __lt__


class Loud:
    """A thing of another kind that can't be compared at all."""

    def __eq__(self, other):
        raise RuntimeError("compared")

    __hash__ = None


NO_WORDS = ("", "Mix", "MIX", "mix ", " mix", "mi", "mixed", "turn", "look", "x", "0", None, True, False, 0, 1, -1, 0.5,
            b"mix", [], ["mix"], (), ("mix",), {}, {"mix": 0}, set(), frozenset({"mix"}), object(), str, Odd(), Loud())
NO_COINS = (-1, -2, -6, -GREAT, 6, 7, 64, GREAT, 10 ** 5000, True, False, "0", "1", "", "c", None, (), (0,), [], [0],
            {}, set(), 0.0, 1.0, 0.5, 0j, b"0", object(), int, Odd(), Loud())


def wrong_words():
    gates = [()]
    for word in NO_WORDS:
        gates += [(word,), (word, 0), (word, 0, 1)]
    gates += [(0, "mix"), (0, 1), (0,)]
    return gates


def wrong_numbers_of_parts():
    gates = []
    for word in ("mix", "flip", "sign"):
        gates += [(word,), (word, 0, 1), (word, 0, 0), (word, 0, None), (word, 0, 1, 2)]
    for word in ("follow", "meet", "swap"):
        gates += [(word,), (word, 0), (word, 0, 1, 2), (word, 0, 1, None), (word, 0, 1, 2, 3)]
    return gates


def wrong_coins():
    gates = []
    for coin in NO_COINS:
        gates += [(word, coin) for word in ("mix", "flip", "sign")]
        for word in ("follow", "meet", "swap"):
            gates += [(word, coin, 0), (word, 0, coin), (word, coin, coin)]
    return gates


def same_coins(coins):
    return [(word, coin, coin) for word in ("follow", "meet", "swap") for coin in range(coins)]


def coins_beyond(coins):
    gates = []
    for coin in (coins, coins + 1, 2 ** coins):
        gates += [(word, coin) for word in ("mix", "flip", "sign")]
        for word in ("follow", "meet", "swap"):
            gates += [(word, coin, 0), (word, 0, coin), (word, coins - 1, coin), (word, coin, coin)]
    return gates


def no_gates(coins):
    return wrong_words() + wrong_numbers_of_parts() + wrong_coins() + same_coins(coins) + coins_beyond(coins)
