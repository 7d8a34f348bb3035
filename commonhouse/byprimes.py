"""Houses by primes [20]."""

from commonhouse.numbers import power
from commonhouse.primes import primes_of


def by_primes(house):
    """A rising list of tuples (prime, powers): how often the prime divides the rounds that it divides."""
    found = {}
    for limit in house:
        for prime, often in primes_of(limit):
            found[prime] = [*found.get(prime, []), often]
    return [(prime, tuple(sorted(found[prime]))) for prime in sorted(found)]


def from_primes(told):
    """The form of the houses that such a list tells."""
    many = max([len(powers) for prime, powers in told], default=0)
    limits = [1 for place in range(many)]
    for prime, powers in told:
        # The greatest power of each prime goes to the last round, so that each round divides the next.
        for place, often in enumerate(powers, start=many - len(powers)):
            limits[place] *= power(prime, often)
    return tuple(limits)
