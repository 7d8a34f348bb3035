"""Ways from house to house [15]."""

from commonhouse.houses import are_things, is_house, left_by, need_thing, nought, times
from commonhouse.rows import mixed, units


def is_way(thing):
    """Whether a thing, whatever it is, is a way."""
    if not isinstance(thing, tuple) or len(thing) != 3:
        return False
    one, other, images = thing
    if not is_house(one) or not is_house(other) or not are_things(other, len(one), images):
        return False
    return all(times(other, limit, image) == nought(other) for limit, image in zip(one, images))


def led(way, a):
    """The thing of other to which a thing of one is led."""
    one, other, images = way
    need_thing(one, a)
    return left_by(other, mixed(len(other), a, images))


def stay(house):
    """The way that leads each thing of the house to itself."""
    # A round of 1 has no thing with 1 in it, so what is left by the rounds is taken.
    return house, house, tuple([left_by(house, unit) for unit in units(len(house))])


def none_way(one, other):
    """The way that leads each thing of one to nought."""
    return one, other, tuple([nought(other) for limit in one])
