"""Whole numbers: what they are, their common measures and multiples [2, 4]."""


def is_whole(thing):
    """Whether a thing, whatever it is, is a whole number."""
    return isinstance(thing, int) and not isinstance(thing, bool)


def divides(n, number):
    """Whether n divides the number; 0 divides 0 alone."""
    if n == 0:
        return number == 0
    return number % n == 0


def common_measure(a, b):
    """The greatest number that divides both, 0 of 0 and 0."""
    while b != 0:
        a, b = b, a % b
    return abs(a)


def common_multiple(a, b):
    """The least number above 0 that both divide, 0 where one of them is 0."""
    if a == 0 or b == 0:
        return 0
    return abs(a) // common_measure(a, b) * abs(b)


def both(a, b):
    """(g, x, y): g the common measure, which x times a and y times b together come to."""
    measure, rest = abs(a), abs(b)
    x, later = 1, 0
    while rest != 0:
        many, left = divmod(measure, rest)
        measure, rest = rest, left
        x, later = later, x - many * later
    if a < 0:
        x = -x
    # Only x is carried along, as y follows from it: with great numbers that spares much work.
    y = 0 if b == 0 else (measure - x * a) // b
    return measure, x, y


def power(base, many):
    """So many times base, multiplied together."""
    found = 1
    for again in range(many):
        found *= base
    return found
