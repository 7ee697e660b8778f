"""How gates, rows, fractions and parts are written, and how they are read."""

from turncoins.errors import NoText
from turncoins.gates import ONE_COIN_WORDS, TWO_COIN_WORDS
from turncoins.lists import MOST_COINS
from turncoins.rows import bit_of

# A coin's sign stands at its bit of xs and twice its bit of zs.
LETTERS = ".xzy"


def show_gate(gate):
    return " ".join([gate[0]] + [str(coin) for coin in gate[1:]])


def show_gates(gates):
    return "; ".join([show_gate(gate) for gate in gates])


def show_row(row, coins):
    sign = "-" if row[0] == -1 else "+"
    return sign + "".join([LETTERS[bit_of(row[1], coin) + 2 * bit_of(row[2], coin)] for coin in range(coins)])


def show_rows(rows, coins):
    return " ".join([show_row(row, coins) for row in rows])


def show_numbers(numbers):
    return " ".join([str(number) for number in numbers])


def show_fraction(part):
    top = part[0]
    bottom = part[1]
    return f"{top}" if bottom == 1 else f"{top}/{bottom}"


def read_figure(word, low, high):
    # The very texts are asked for, since int takes others too, as one with a line's end.
    if word not in [str(figure) for figure in range(low, high + 1)]:
        raise NoText(f"no figure from {low} to {high}")
    return int(word)


def coins_behind(word):
    if word in ONE_COIN_WORDS:
        return 1
    if word in TWO_COIN_WORDS:
        return 2
    raise NoText("no gate has such a word")


def read_gate(text):
    words = text.split(" ")
    if len(words) - 1 != coins_behind(words[0]):
        raise NoText("a gate has more or fewer coins")
    return tuple([words[0]] + [read_figure(word, 0, 9) for word in words[1:]])


def read_gates(text):
    if text == "":
        return []
    return [read_gate(part) for part in text.split("; ")]


def read_row(text):
    if text[:1] not in ("+", "-"):
        raise NoText("a row begins with + or -")
    places = [LETTERS.find(letter) for letter in text[1:]]
    if len(places) < 1 or len(places) > MOST_COINS or min(places) < 0:
        raise NoText("behind its sign a row has one to six signs, each . or x or z or y")
    xs = sum([(place & 1) << coin for coin, place in enumerate(places)])
    zs = sum([(place >> 1) << coin for coin, place in enumerate(places)])
    return (1 if text[0] == "+" else -1, xs, zs)


def read_row_of(text, coins):
    row = read_row(text)
    if len(text) - 1 != coins:
        raise NoText("a row has a sign for each coin")
    return row


def read_rows_of(text, coins):
    if text == "":
        return []
    return [read_row_of(word, coins) for word in text.split(" ")]


def read_part(text, coins):
    if len(text) != coins:
        raise NoText("a part has a sign for each coin")
    return sum([read_figure(sign, 0, 1) << coin for coin, sign in enumerate(text)])
