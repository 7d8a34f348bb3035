"""How often things are taken till they are nought [6]."""

from commonhouse.houses import need_thing
from commonhouse.numbers import common_measure, common_multiple, power
from commonhouse.primes import primes_of


def turn(house, a):
    """The least number from 1 on, so many times which the thing is nought."""
    need_thing(house, a)
    least = 1
    for number, limit in zip(a, house):
        least = common_multiple(least, limit // common_measure(number, limit))
    return least


def last_turn(house):
    """The least number from 1 on, so many times which each thing is nought."""
    least = 1
    for limit in house:
        least = common_multiple(least, limit)
    return least


def nought_at(house, n):
    """How many things are nought n times."""
    many = 1
    for limit in house:
        many *= common_measure(n, limit)
    return many


def of_turn(house, n):
    """How many things have the turn n."""
    # A thing is one sum of things whose turns are powers of unlike primes, so the counts multiply.
    many = 1
    for prime, often in primes_of(n):
        highest = power(prime, often)
        many *= nought_at(house, highest) - nought_at(house, highest // prime)
    return many
