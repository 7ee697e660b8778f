"""Codes: checks that mark wrong turns, and tables that mend them."""

from turncoins.errors import CantMend, NoCode
from turncoins.lists import MOST_COINS
from turncoins.rows import agree, is_row, letters, product
from turncoins.spans import least_rows, made_of


def check_code(coins, checks):
    # The coins' number is asked first, since bits are asked of so many coins.
    if coins < 1 or coins > MOST_COINS:
        raise NoCode("a code has 1 to 6 coins")
    if len(checks) > coins:
        raise NoCode("a code has at most as many checks as coins")
    for check in checks:
        if not is_row(check, coins):
            raise NoCode("a check has the sign 1 or -1 and bits within the coins")
    # The least form isn't needed here, but it is refused where the checks don't stand free.
    least_rows(checks)


def turns_up_to(coins, many):
    # Those with fewer letters come first, so that the first that fits has as few as can be.
    turns = [(1, 0, 0)]
    for coin in range(coins):
        bit = 1 << coin
        fewer = [turn for turn in turns if letters(turn) < many]
        for x, z in ((bit, 0), (0, bit), (bit, bit)):
            turns = turns + [(1, turn[1] + x, turn[2] + z) for turn in fewer]
    return sorted(turns, key=letters)


class Code:
    def __init__(self, coins, checks):
        check_code(coins, checks)
        self.coins = coins
        # A list of its own, since the asker may change the one handed in; the bits of marks go by its order.
        self.checks = list(checks)

    def marks(self, turn):
        return sum([1 << at for at, check in enumerate(self.checks) if not agree(check, turn)])

    def is_harmless(self, turn):
        # A row without letters is made of none of the checks, whatever its sign.
        return made_of(self.checks, turn) is not None

    def least_unseen(self):
        for turn in turns_up_to(self.coins, self.coins):
            if self.marks(turn) == 0 and not self.is_harmless(turn):
                return turn
        return None

    def table(self, many):
        mending = {}
        for turn in turns_up_to(self.coins, many):
            seen = self.marks(turn)
            if seen not in mending:
                mending[seen] = turn
            elif not self.is_harmless(product(mending[seen], turn)):
                # What is harmless times what is harmless is so too: asking of the first one asks of each two.
                raise CantMend(mending[seen], turn)
        return mending
