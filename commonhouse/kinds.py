"""How many parts of each kind a house has, counted without telling them [24]."""

from commonhouse.byprimes import by_primes, from_primes
from commonhouse.errors import TooGreat
from commonhouse.houses import size
from commonhouse.numbers import divides, power
from commonhouse.turns import last_turn

MOST_SIZE = 4096


def how_often(prime, number):
    """How often the prime divides the number, which is above 0."""
    often = 0
    while number % prime == 0:
        number //= prime
        often += 1
    return often


def choices(prime, wide, many):
    """How many parts with so many rounds the house of wide rounds has, all rounds being the prime."""
    found = 1
    for at in range(many):
        found = found * (power(prime, wide - at) - 1) // (power(prime, at + 1) - 1)
    return found


def from_on(powers, least):
    """How many of the powers are at least so great."""
    return len([often for often in powers if often >= least])


def many_held(prime, powers, held):
    """How many parts whose rounds are the powers held of the prime has the house of such powers."""
    # Layer by layer, layer i being the powers from i on. The held ones of a layer are chosen around those
    # of the next one, which lie in it already; and these may each be changed by what the house has in the
    # layer beyond the held ones.
    found = 1
    for least in range(1, max((0, *powers, *held)) + 1):
        there, here, later = from_on(powers, least), from_on(held, least), from_on(held, least + 1)
        if here > there:
            return 0
        found *= power(prime, later * (there - here)) * choices(prime, there - later, here - later)
    return found


def how_many(house, kind):
    """How many parts of a kind the house has."""
    # Where there is such a part, its rounds divide the last turn; so no primes but the house's are looked
    # for, and none is divided out more often than a round of the house has it.
    last = last_turn(house)
    if not all(divides(limit, last) for limit in kind):
        return 0
    found = 1
    for prime, powers in by_primes(house):
        found *= many_held(prime, powers, tuple([how_often(prime, limit) for limit in kind]))
    return found


def held_within(powers):
    """All powers of a prime that a part of the house of such powers may have, each once."""
    found = [()]
    for most in powers:
        found = [(*ahead, often) for ahead in found for often in range(max((0, *ahead)), most + 1)]
    return [tuple([often for often in held if often > 0]) for held in found]


def kinds(house):
    """All kinds of parts of the house, each with how many there are, rising."""
    if size(house) > MOST_SIZE:
        raise TooGreat("the house has more things than those whose kinds are told")
    told = [()]
    for prime, powers in by_primes(house):
        told = [(*ahead, (prime, held)) for ahead in told for held in held_within(powers)]
    found = [from_primes(held) for held in told]
    return sorted([(kind, how_many(house, kind)) for kind in found])
