"""A part that stands beside a part, or what shows that none does [30]."""

from commonhouse.cuts import cut_with_makers
from commonhouse.houses import left_by, minus, times
from commonhouse.parts import numbers_for, part_of
from commonhouse.rows import mixed


def in_part_for(house, part, n, thing):
    """A thing of the part that n times is the thing, None where there is none."""
    numbers = numbers_for(house, [left_by(house, [n * x for x in row]) for row in part], thing)
    if numbers is None:
        return None
    return left_by(house, mixed(len(house), numbers, part))


def beside(house, part):
    """("yes", a part that meets the part in nought alone and joined with it is all), or ("no", n, thing,
    half): the thing is in the part and n times half, but n times no thing of the part.
    """
    way, makers = cut_with_makers(house, part)
    found = []
    for n, half in zip(way[1], makers):
        # A maker of the house cut goes round by n there, so n times it is in the part. Less a thing of the
        # part that n times is the same, it goes round by n in the house, too; such makers make a part that
        # stands beside.
        thing = times(house, n, half)
        held = in_part_for(house, part, n, thing)
        if held is None:
            return ("no", n, thing, half)
        found.append(minus(house, half, held))
    return ("yes", part_of(house, found))
