"""The desk: coins kept by names; what is done to them and asked of them is said line by line."""

from turncoins.codes import Code
from turncoins.errors import NoLine, NoName, NoText
from turncoins.images import parting
from turncoins.lists import MOST_COINS
from turncoins.rows import letters
from turncoins.tellings import chance_by, coins_told, first_telling, is_way, list_by, overlap_by, rows_by
from turncoins.tellings import telling_looked, telling_turned, ties_by
from turncoins.texts import read_figure, read_gates, read_part, read_row_of, read_rows_of
from turncoins.texts import show_fraction, show_numbers, show_row, show_rows

# How many words a line has, by its first one. What ends an open line counts as one word, whatever blanks it has.
CLOSED_LINES = {"coins": 4, "drop": 2, "look": 4, "chance": 3, "list": 2, "rows": 2, "overlap": 3, "ties": 3}
OPEN_LINES = {"turn": 3, "part": 3, "mend": 5}
# Each blank parts two words, so with one on either side it is a word alone, with words ahead of it and behind it.
PARTING_WORD = " / "
SMALL_LETTERS = "abcdefghijklmnopqrstuvwxyz"
LONGEST_NAME = 8
MOST_LETTERS_MENDED = 2


def words_of(line):
    first = line.split(" ")[0]
    if first in CLOSED_LINES:
        many = CLOSED_LINES[first]
        words = line.split(" ")
    elif first in OPEN_LINES:
        many = OPEN_LINES[first]
        words = line.split(" ", many - 1)
    else:
        raise NoLine("no line has such a first word")
    if len(words) != many:
        raise NoLine("the line has more or fewer words")
    return words


def checked_words(line):
    words = words_of(line)
    if words[0] == "coins" and not is_way(words[3]):
        raise NoLine("the way is neither long nor short")
    if words[0] == "part" and PARTING_WORD not in words[2]:
        raise NoLine("no word / alone parts the gates")
    return words


def check_name(word):
    if len(word) < 1 or len(word) > LONGEST_NAME or not all([sign in SMALL_LETTERS for sign in word]):
        raise NoName("a name has one to eight small letters")


def read_coins(word):
    return read_figure(word, 1, MOST_COINS)


def read_wrong_turn(word, coins, many):
    turn = read_row_of(word, coins)
    if letters(turn) > many:
        raise NoText("the wrong turn has more letters")
    return turn


def start_said(coins_word, gates_words):
    coins = read_coins(coins_word)
    sides = gates_words.partition(PARTING_WORD)
    one = read_gates(sides[0])
    start = parting(coins, one, read_gates(sides[2]))
    return "none" if start is None else start


def mending_said(coins_word, many_word, turn_word, checks_words):
    coins = read_coins(coins_word)
    many = read_figure(many_word, 0, MOST_LETTERS_MENDED)
    turn = read_wrong_turn(turn_word, coins, many)
    code = Code(coins, read_rows_of(checks_words, coins))
    return show_row(code.table(many)[code.marks(turn)], coins)


def telling_said(telling, words):
    coins = coins_told(telling)
    if words[0] == "chance":
        return show_fraction(chance_by(telling, read_row_of(words[2], coins)))
    if words[0] == "list":
        return show_numbers(list_by(telling))
    if words[0] == "rows":
        return show_rows(rows_by(telling), coins)
    return str(ties_by(telling, read_part(words[2], coins)))


class Desk:
    def __init__(self):
        self.kept = {}

    def telling_of(self, name):
        # Coins are laid by names alone, so a word that is no name has none of them either.
        if name not in self.kept:
            raise NoName("nothing stands by this name")
        return self.kept[name]

    def lay(self, name, coins_word, way):
        check_name(name)
        self.kept[name] = first_telling(read_coins(coins_word), way)
        return "ok"

    def drop(self, name):
        self.telling_of(name)
        self.kept.pop(name)
        return "ok"

    def turn(self, name, gates_words):
        telling = self.telling_of(name)
        self.kept[name] = telling_turned(telling, read_gates(gates_words))
        return "ok"

    def look(self, name, row_word, wish_word):
        telling = self.telling_of(name)
        row = read_row_of(row_word, coins_told(telling))
        seen = telling_looked(telling, row, read_figure(wish_word, 0, 1))
        self.kept[name] = seen[2]
        told = seen[0]
        likely = show_fraction(seen[1])
        return f"{told} {likely}"

    def overlap(self, name, other_name):
        one = self.telling_of(name)
        other = self.telling_of(other_name)
        if coins_told(one) != coins_told(other):
            raise NoText("the two have unlike many coins")
        return show_fraction(overlap_by(one, other))

    def say(self, line):
        words = checked_words(line)
        if words[0] == "part":
            return start_said(words[1], words[2])
        if words[0] == "mend":
            return mending_said(words[1], words[2], words[3], words[4])
        if words[0] == "coins":
            return self.lay(words[1], words[2], words[3])
        if words[0] == "drop":
            return self.drop(words[1])
        if words[0] == "turn":
            return self.turn(words[1], words[2])
        if words[0] == "look":
            return self.look(words[1], words[2], words[3])
        if words[0] == "overlap":
            return self.overlap(words[1], words[2])
        return telling_said(self.telling_of(words[1]), words)
