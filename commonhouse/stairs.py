"""The one stair by which the same words can be reached as by rows [9]."""

from commonhouse.numbers import both
from commonhouse.rows import units


def foot_at(row):
    """The place of the foot; that behind the last one where all numbers are 0."""
    for place, number in enumerate(row):
        if number != 0:
            return place
    return len(row)


def is_stair(wide, rows):
    """Whether rows so wide are a stair."""
    last = -1
    for at, row in enumerate(rows):
        place = foot_at(row)
        if place == wide or place <= last or row[place] < 0:
            return False
        if not all(0 <= above[place] < row[place] for above in rows[:at]):
            return False
        last = place
    return True


def less_times(row, many, other):
    """A row less so many times another one."""
    if many == 0:
        return row
    return [x - many * y for x, y in zip(row, other)]


def walked_down(stair, row):
    """(numbers, rest): how often each row of the stair is taken off, so that from 0 to below the foot
    is left at its place, and what is left of the row by all this.
    """
    numbers = []
    rest = row
    for step in stair:
        place = foot_at(step)
        many = rest[place] // step[place]
        rest = less_times(rest, many, step)
        numbers.append(many)
    return numbers, rest


def is_reached(stair, word):
    """Whether a word can be reached by a stair."""
    return not any(walked_down(stair, word)[1])


def parted(one, other):
    """Two rows by which the same can be reached, the second with 0 up to and at the first one's foot.
    One is not all 0.
    """
    place = min(foot_at(one), foot_at(other))
    if one[place] == 0:
        return other, one
    if other[place] % one[place] == 0:
        return one, less_times(other, other[place] // one[place], one)
    measure, x, y = both(one[place], other[place])
    less, more = other[place] // measure, one[place] // measure
    first = [x * p + y * q for p, q in zip(one, other)]
    second = [more * q - less * p for p, q in zip(one, other)]
    return first, second


def settled(rows):
    """The stair of rows whose feet already stand each farther to the right than the one ahead."""
    stair = []
    for row in reversed(rows):
        upright = row if row[foot_at(row)] > 0 else [-x for x in row]
        rest = walked_down(stair, upright)[1]
        stair = [rest, *stair]
    return stair


def with_row(stair, row):
    """The stair of a stair's rows and one row more."""
    rows = []
    rest = row
    for step in stair:
        first, rest = parted(step, rest)
        rows.append(first)
    if any(rest):
        rows.append(rest)
    return settled(rows)


def stair_of(wide, rows):
    """The stair that belongs to rows so wide."""
    # A whole stair is made behind each row: as it is the only one that belongs to the rows so far, its
    # numbers have a measure, and those on the way can't grow from row to row.
    stair = []
    for row in rows:
        stair = with_row(stair, row)
    return tuple([tuple(row) for row in stair])


def stair_behind(ahead, wide, rows):
    """The stair of what rows reach with 0 at so many places ahead, of the places so wide behind them."""
    # Of a stair's rows only those with 0 at all places ahead go into such words.
    return tuple([row[ahead:] for row in stair_of(ahead + wide, rows) if not any(row[:ahead])])


def with_units(rows):
    """The rows with a unit behind each, the units turned about: the last row has the first one."""
    return [row + unit for row, unit in zip(rows, units(len(rows))[::-1])]


def stair_with_units(wide, rows):
    """The stair of the rows with units behind: so behind each of its rows stands how it is mixed."""
    # Its last rows, which have 0 up to the units, tell by which numbers the rows come to nought. As a
    # stair brings down what stands above their feet, they keep the other mixings small, too.
    return stair_of(wide + len(rows), with_units(rows))


def mixing_behind(wide, row):
    """The numbers that stand behind such a row, one for each of the rows in their own order."""
    return tuple(row[wide:][::-1])


def stair_with(wide, rows):
    """(stair, mixings): the rows mixed by the numbers k of mixings are row k of the stair."""
    steps = [row for row in stair_with_units(wide, rows) if foot_at(row) < wide]
    return tuple([row[:wide] for row in steps]), tuple([mixing_behind(wide, row) for row in steps])


def mixing(wide, rows, word):
    """Numbers by which the rows mixed are the word, or None where it can't be reached."""
    whole = (*word, *[0 for row in rows])
    rest = walked_down(stair_with_units(wide, rows), whole)[1]
    if any(rest[:wide]):
        return None
    return tuple([-number for number in mixing_behind(wide, rest)])
