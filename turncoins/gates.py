"""Gates, and what they do to lists."""

from turncoins.errors import NoGate
from turncoins.lists import check_list, coins_of, least

ONE_COIN_WORDS = ("mix", "flip", "sign")
TWO_COIN_WORDS = ("follow", "meet", "swap")


def is_coin(part, coins):
    if not isinstance(part, int) or isinstance(part, bool):
        return False
    return 0 <= part < coins


def is_gate(gate, coins):
    # The kind is asked ahead of the word, since parts of other kinds may say anything when they are compared.
    if not isinstance(gate, tuple) or len(gate) == 0 or not isinstance(gate[0], str):
        return False
    if gate[0] in ONE_COIN_WORDS:
        return len(gate) == 2 and is_coin(gate[1], coins)
    if gate[0] in TWO_COIN_WORDS:
        return len(gate) == 3 and is_coin(gate[1], coins) and is_coin(gate[2], coins) and gate[1] != gate[2]
    return False


def check_gates(gates, coins):
    for at, gate in enumerate(gates):
        if not is_gate(gate, coins):
            raise NoGate(at)


def on_back(place, coin):
    return (place >> coin) & 1 == 1


def other_way(place, coin):
    return place ^ (1 << coin)


def mixed_at(numbers, place, coin):
    there = numbers[other_way(place, coin)]
    if on_back(place, coin):
        return there - numbers[place]
    return numbers[place] + there


def signed_at(numbers, place, coin):
    if on_back(place, coin):
        return -numbers[place]
    return numbers[place]


def followed_at(numbers, place, leader, follower):
    if on_back(place, leader):
        return numbers[other_way(place, follower)]
    return numbers[place]


def met_at(numbers, place, one, other):
    if on_back(place, one) and on_back(place, other):
        return -numbers[place]
    return numbers[place]


def swapped_at(numbers, place, one, other):
    if on_back(place, one) != on_back(place, other):
        return numbers[other_way(other_way(place, one), other)]
    return numbers[place]


def number_behind(numbers, place, gate):
    word = gate[0]
    if word == "mix":
        return mixed_at(numbers, place, gate[1])
    if word == "flip":
        return numbers[other_way(place, gate[1])]
    if word == "sign":
        return signed_at(numbers, place, gate[1])
    if word == "follow":
        return followed_at(numbers, place, gate[1], gate[2])
    if word == "meet":
        return met_at(numbers, place, gate[1], gate[2])
    return swapped_at(numbers, place, gate[1], gate[2])


def turned_by(numbers, gates):
    check_list(numbers)
    check_gates(gates, coins_of(numbers))
    coming = least(numbers)
    for gate in gates:
        coming = least([number_behind(coming, place, gate) for place in range(len(coming))])
    return coming


def turned(numbers, gate):
    return turned_by(numbers, [gate])
