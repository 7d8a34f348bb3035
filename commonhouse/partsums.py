"""Parts joined and met, and whether one lies within another [22]."""

from commonhouse.houses import nought
from commonhouse.stairs import is_reached, stair_behind, stair_of


def joined(house, first, second):
    """The least part that has both."""
    return stair_of(len(house), (*first, *second))


def met(house, first, second):
    """The part of all things that are in both."""
    # Each row of first stands twice, each of second once with 0 behind. Where rows so mixed come to 0
    # at the places ahead, first and second come to the same there but for the sign, and that is what
    # stands behind.
    twice = [row + row for row in first]
    once = [row + nought(house) for row in second]
    return stair_behind(len(house), len(house), (*twice, *once))


def lies_within(house, first, second):
    """Whether the first part lies within the second."""
    return all(is_reached(second, row) for row in first)
