"""Turnings of a house: ways to itself by which each thing is reached [27]."""

from commonhouse.allways import many_ways, ways
from commonhouse.byprimes import by_primes
from commonhouse.falls import reached
from commonhouse.numbers import power
from commonhouse.parts import numbers_for
from commonhouse.rows import units
from commonhouse.ways import stay


def is_turning(way):
    """Whether a way is a turning."""
    one, other, images = way
    return one == other and reached(way) == units(len(other))


def turned_back(way):
    """The turning that takes a turning back, None where the way is none."""
    if not is_turning(way):
        return None
    # By a turning an image has the round as its turn; so the numbers for a thing are below the rounds.
    house, other, images = way
    return house, other, tuple([numbers_for(house, images, a) for a in stay(house)[2]])


def many_turnings(house):
    """How many turnings the house has."""
    # For each prime p and each power of it that m rounds have, a way holds a square of m times m numbers,
    # by what is left by p; each square is held by alike many ways. A way is a turning where all these
    # squares can be taken back. Of all squares that share can be which (p - 1) of p, (p * p - 1) of p * p
    # and so on, m of them, multiply to.
    found = many_ways(house, house)
    for prime, powers in by_primes(house):
        for at, often in enumerate(powers):
            alike_so_far = power(prime, powers[:at + 1].count(often))
            found = found // alike_so_far * (alike_so_far - 1)
    return found


def turnings(house):
    """All turnings of the house, rising."""
    return [way for way in ways(house, house) if is_turning(way)]
