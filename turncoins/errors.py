"""The refusals: each has a class of its own, and all of them stand under CoinError alone."""


class CoinError(ValueError):
    pass


class NoList(CoinError):
    pass


class NoGate(CoinError):
    def __init__(self, at):
        CoinError.__init__(self, f"what has the number {at} is no gate for these coins")
        self.at = at


class NoLook(CoinError):
    pass


class NotFree(CoinError):
    def __init__(self, which):
        CoinError.__init__(self, f"the rows with the numbers {which} don't stand free")
        # A list of its own, so that who raises the refusal and who takes it can't change it for one another.
        self.which = list(which)


class NoRows(CoinError):
    pass


class NoShort(CoinError):
    pass


class NoTable(CoinError):
    pass


class NoCode(CoinError):
    pass


class CantMend(CoinError):
    def __init__(self, one, other):
        # Both are handed to the base as they are, since a copy of an error is made anew from what its base was handed.
        CoinError.__init__(self, one, other)
        self.one = one
        self.other = other


class NoText(CoinError):
    pass


class NoName(CoinError):
    pass


class NoLine(CoinError):
    pass
