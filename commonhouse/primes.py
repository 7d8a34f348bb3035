"""The primes of a number [4]."""


def primes_of(n):
    """A rising list of tuples (prime, how often) that multiply to n."""
    found = []
    prime = 2
    while prime * prime <= n:
        often = 0
        while n % prime == 0:
            n //= prime
            often += 1
        if often > 0:
            found.append((prime, often))
        prime += 1
    if n > 1:
        found.append((n, 1))
    return found
