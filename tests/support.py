"""What several test files share."""

import contextlib
import itertools
import random
import signal

EIGHT_DEEP = ((((((((1,),),),),),),),)

# Things of many kinds. None of them is a house of two rounds, a thing of one, rows, a step or a given house.
ODD_THINGS = [
    None, True, False, "", "add", "1", "(1, 2)", b"", b"ab", 0, 1, -1, 10 ** 40, [], [1, 2], [[1, 2]], {},
    {1: 2}, {0: 1, 1: 1}, set(), {1, 2}, frozenset({1, 2}), object(), object, len, range(2), EIGHT_DEEP,
    (None, None), (True, False), (True, True), (1, True), ("1", "2"), ("", ""), ((), ()), ([], []), ((1,), (1,)),
    (1, None), (1, "1"), ("a",), ({}, {}), (b"a", b"b"),
]


def chance(seed):
    """The same numbers in each run."""
    return random.Random(seed)


def some_rows(source, many, wide, low, high):
    return tuple(tuple(source.randint(low, high) for _ in range(wide)) for _ in range(many))


def all_things(house):
    """All things of a small house, reckoned apart from the program."""
    return list(itertools.product(*[range(limit) for limit in house]))


def times_product(one, other, wide):
    """Rows multiplied, reckoned apart from the program."""
    return tuple(
        tuple(sum(row[k] * other[k][place] for k in range(len(other))) for place in range(wide)) for row in one
    )


def square_units(n):
    return tuple((0,) * k + (1,) + (0,) * (n - k - 1) for k in range(n))


def most_figures(rows):
    return max((len(str(abs(number))) for row in rows for number in row), default=0)


def is_plain(told):
    """Whether what is told is of the plain kinds alone, all the way down."""
    if told is None or type(told) in (bool, int, str):
        return True
    return type(told) in (tuple, list) and all(is_plain(part) for part in told)


@contextlib.contextmanager
def good_time(seconds=60):
    """Break off what doesn't come to an end; the time is long, so that slow machines don't matter."""

    def late(number, frame):
        raise AssertionError(f"no answer within {seconds} seconds")

    before = signal.signal(signal.SIGALRM, late)
    signal.alarm(seconds)
    try:
        yield
    finally:
        signal.alarm(0)
        signal.signal(signal.SIGALRM, before)
