"""Rows made diagonal [10]."""

from commonhouse.numbers import divides
from commonhouse.rows import across, product, units
from commonhouse.stairs import mixing_behind, stair_with_units, walked_down, with_units


def stair_by_square(wide, rows):
    """(stair, there, back): there times the rows is their stair with rows of 0 behind it, so that there
    are as many rows as before; there times back are units.
    """
    whole = stair_with_units(wide, rows)
    there = tuple([mixing_behind(wide, row) for row in whole])
    back = tuple([tuple(walked_down(whole, row)[0]) for row in with_units(rows)])
    return tuple([row[:wide] for row in whole]), there, back


def all_behind_added(n):
    """(there, back): by there each of n rows gets all rows behind it; there times back are units."""
    there = tuple([tuple([int(place >= at) for place in range(n)]) for at in range(n)])
    back = tuple([tuple([int(place == at) - int(place == at + 1) for place in range(n)]) for at in range(n)])
    return there, back


def led_on(pair, there, back):
    """The pair of a square and the one that takes it back, led on by one more such pair."""
    many = len(there)
    return product(many, there, pair[0]), product(many, pair[1], back)


def is_diagonal(rows):
    """Whether there is 0 everywhere but at the places (k, k)."""
    return all(at == place or number == 0 for at, row in enumerate(rows) for place, number in enumerate(row))


def cleared(wide, rows, left, right):
    """(rows, left, right): the rows led on to diagonal ones from 0 on, with noughts last.
    Left and right are pairs as led_on tells them; right deals with the columns as rows.
    """
    many = len(rows)
    done = False
    while not done:
        rows, there, back = stair_by_square(wide, rows)
        left = led_on(left, there, back)
        columns, there, back = stair_by_square(many, across(wide, rows))
        right = led_on(right, there, back)
        rows = across(many, columns)
        done = is_diagonal(rows)
    return rows, left, right


def is_chain(rows):
    """Whether of diagonal rows each number at (k, k) divides the next."""
    return all(divides(one, other) for one, other in zip(on_diagonal(rows), on_diagonal(rows)[1:]))


def on_diagonal(rows):
    """The numbers at the places (k, k)."""
    return tuple([row[at] for at, row in enumerate(rows) if at < len(row)])


def diagonal(wide, rows):
    """(left, left_back, numbers, right, right_back): left times the rows times right has the numbers
    at the places (k, k) and 0 else; each of them divides the next.
    """
    many = len(rows)
    left, right = (units(many), units(many)), (units(wide), units(wide))
    now, left, right = cleared(wide, rows, left, right)
    while not is_chain(now):
        # Each column gets those behind it. So the first column has all numbers, its foot becomes the
        # measure of all; where that is so already, the next one's becomes that of all the others.
        there, back = all_behind_added(wide)
        right = led_on(right, there, back)
        columns = product(many, there, across(wide, now))
        now, left, right = cleared(wide, across(many, columns), left, right)
    return left[0], left[1], on_diagonal(now), across(wide, right[0]), across(wide, right[1])
