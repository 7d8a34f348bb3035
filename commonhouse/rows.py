"""Rows of whole numbers: mixed, multiplied, and units [7]."""

from commonhouse.numbers import is_whole


def is_row(wide, thing):
    """Whether a thing, whatever it is, is a row so wide."""
    if not isinstance(thing, tuple) or len(thing) != wide:
        return False
    return all(is_whole(number) for number in thing)


def is_rows(wide, thing):
    """Whether a thing, whatever it is, is a tuple of rows so wide."""
    if not isinstance(thing, tuple):
        return False
    return all(is_row(wide, row) for row in thing)


def mixed(wide, numbers, rows):
    """Place by place the sum of all rows, each so many times as its number says."""
    total = [0 for place in range(wide)]
    for many, row in zip(numbers, rows):
        total = [x + many * y for x, y in zip(total, row)]
    return tuple(total)


def product(wide, one, other):
    """Rows: each row of one mixes other, which is so wide."""
    return tuple([mixed(wide, row, other) for row in one])


def straight(numbers):
    """A row for each number, with it at its own place and 0 else."""
    many = len(numbers)
    return tuple([tuple([number if place == at else 0 for place in range(many)]) for at, number in enumerate(numbers)])


def units(n):
    """n rows with 1 at their own place and 0 else."""
    return straight([1 for place in range(n)])


def across(wide, rows):
    """The columns of rows so wide, each as a row."""
    return tuple([tuple([row[place] for row in rows]) for place in range(wide)])


def summed(one, other):
    """Two rows multiplied place by place and summed."""
    return sum([x * y for x, y in zip(one, other)])
