"""All parts of a house [23]."""

from commonhouse.errors import TooGreat
from commonhouse.houses import size, things
from commonhouse.partsums import lies_within
from commonhouse.stairs import is_reached

MOST_SIZE = 48


def first_rows(limit, behind):
    """All rows that may stand ahead of a part of the places behind, so that it becomes a part with one
    round more, which is limit.
    """
    # What stands above the feet is below them. So many times as brings the foot to the round, the row
    # must come to what the part behind reaches.
    above = things(tuple([row[at] for at, row in enumerate(behind)]))
    found = []
    for foot in range(1, limit + 1):
        if limit % foot == 0:
            many = limit // foot
            found.extend([(foot, *word) for word in above if is_reached(behind, [many * x for x in word])])
    return found


def parts(house):
    """All parts of the house, rising."""
    if size(house) > MOST_SIZE:
        raise TooGreat("the house has more things than those whose parts are told")
    # From the last round to the first: what a part reaches with 0 at the first place is a part of the
    # rounds behind it, so only such ones are carried on.
    found = [()]
    for limit in reversed(house):
        found = [
            (row, *[(0, *later) for later in behind]) for behind in found for row in first_rows(limit, behind)
        ]
    return sorted(found)


def parts_between(house, low, high):
    """All parts that have low and lie within high, rising."""
    return [part for part in parts(house) if lies_within(house, low, part) and lies_within(house, part, high)]
