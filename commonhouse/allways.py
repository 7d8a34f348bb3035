"""All ways from one house to another: how many, each of them, and the house of them [16, 17]."""

from commonhouse.errors import TooGreat
from commonhouse.houses import need_thing, size
from commonhouse.numbers import common_measure

MOST_WAYS = 520


def measures(one, other):
    """For each round of one and, within it, each round of other the common measure of both."""
    return tuple([common_measure(limit, place) for limit in one for place in other])


def many_ways(one, other):
    """How many ways go from one to other."""
    return size(measures(one, other))


def stride(limit, place):
    """The least number above 0 that so many times as limit is 0 by what is left by the round place."""
    return place // common_measure(limit, place)


def images_for(limit, other):
    """All things of other that so many times as limit are nought, rising."""
    found = [()]
    for place in other:
        found = [(*ahead, number) for ahead in found for number in range(0, place, stride(limit, place))]
    return found


def ways(one, other):
    """All ways from one to other, rising."""
    if many_ways(one, other) > MOST_WAYS:
        raise TooGreat("there are more ways than are told")
    found = [()]
    for limit in one:
        some = images_for(limit, other)
        found = [(*ahead, image) for ahead in found for image in some]
    return [(one, other, images) for images in found]


def ways_house(one, other):
    """The house of ways from one to other."""
    return measures(one, other)


def way_of(one, other, a):
    """The way for which a thing of the house of ways stands."""
    need_thing(ways_house(one, other), a)
    wide = len(other)
    images = []
    for at, limit in enumerate(one):
        numbers = a[at * wide:at * wide + wide]
        images.append(tuple([number * stride(limit, place) for number, place in zip(numbers, other)]))
    return one, other, tuple(images)


def thing_of(way):
    """The thing of the house of ways that stands for a way."""
    one, other, images = way
    numbers = []
    for limit, image in zip(one, images):
        numbers.extend([number // stride(limit, place) for number, place in zip(image, other)])
    return tuple(numbers)
