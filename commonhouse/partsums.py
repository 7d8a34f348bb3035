"""Parts joined and met, and whether one lies within another [22]."""

from commonhouse.stairs import is_reached, stair_of


def joined(house, first, second):
    """The least part that has both."""
    return stair_of(len(house), (*first, *second))


def met(house, first, second):
    """The part of all things that are in both."""
    # Each row of first stands twice, each of second once with 0 behind. Where rows so mixed come to 0
    # at the places ahead, first and second come to the same there but for the sign, and that is what
    # stands behind; the last rows of the stair reach just these words.
    wide = len(house)
    twice = [row + row for row in first]
    once = [(*row, *[0 for limit in house]) for row in second]
    stair = stair_of(wide + wide, (*twice, *once))
    return tuple([row[wide:] for row in stair if not any(row[:wide])])


def lies_within(house, first, second):
    """Whether the first part lies within the second."""
    return all(is_reached(second, row) for row in first)
