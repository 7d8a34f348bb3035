"""Tables of sums: whether one is let by, and the table of a house [31, 32]."""

from commonhouse.errors import NoTable, TooGreat
from commonhouse.houses import plus, size, things
from commonhouse.numbers import is_whole

MOST_NUMBERS = 16


def is_sums_row(many, thing):
    """Whether a thing, whatever it is, is a list of so many whole numbers, each from 0 to below so many."""
    if not isinstance(thing, list) or len(thing) != many:
        return False
    return all(is_whole(number) and 0 <= number < many for number in thing)


def has_table_shape(thing):
    """Whether a thing, whatever it is, has the shape of a table of sums."""
    if not isinstance(thing, list) or len(thing) < 1 or len(thing) > MOST_NUMBERS:
        return False
    return all(is_sums_row(len(thing), row) for row in thing)


def nought_in(table):
    """The number by which each number has itself as its sum, on either side; None where there is none."""
    everything = list(range(len(table)))
    for number in everything:
        if table[number] == everything and [row[number] for row in table] == everything:
            return number
    return None


def first_pair(table):
    """The first two that don't have one sum either way about; None where all have."""
    for a, row in enumerate(table):
        for b, total in enumerate(row):
            if total != table[b][a]:
                return a, b
    return None


def first_triple(table):
    """The first three that don't come to one sum; None where all do."""
    for a, row in enumerate(table):
        for b, total in enumerate(row):
            for c, later in enumerate(table[b]):
                if table[total][c] != row[later]:
                    return a, b, c
    return None


def first_without_other(table, zero):
    """The first that has no number with which its sum is the nought; None where each has one."""
    for a, row in enumerate(table):
        if zero not in row:
            return (a,)
    return None


def need_none(word, numbers):
    """Refuse a table by this word where numbers are told for which it isn't so."""
    if numbers is not None:
        raise NoTable(word, numbers)


def lets_table(thing):
    """True where a thing, whatever it is, is a table of sums that is let by."""
    if not has_table_shape(thing):
        raise NoTable("shape", ())
    zero = nought_in(thing)
    if zero is None:
        raise NoTable("nought", ())
    need_none("pair", first_pair(thing))
    need_none("triple", first_triple(thing))
    need_none("other", first_without_other(thing, zero))
    return True


def table_of(house):
    """The table of a house, its things, rising, as numbers."""
    if size(house) > MOST_NUMBERS:
        raise TooGreat("the house has more things than a table has numbers")
    everything = things(house)
    number_of = {a: number for number, a in enumerate(everything)}
    return [[number_of[plus(house, a, b)] for b in everything] for a in everything]
