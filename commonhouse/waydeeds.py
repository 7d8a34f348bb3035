"""Ways chained, summed, and taken so many times [16]."""

from commonhouse.errors import NoFit
from commonhouse.houses import minus, plus, times
from commonhouse.ways import led


def then(first, second):
    """The way that leads by first and behind it by second."""
    if first[1] != second[0]:
        raise NoFit("the second way doesn't begin where the first one ends")
    return first[0], second[1], tuple([led(second, image) for image in first[2]])


def need_same_houses(first, second):
    """Refuse two ways that don't go between the same houses."""
    if first[0] != second[0] or first[1] != second[1]:
        raise NoFit("the two ways don't go between the same houses")


def plus_ways(first, second):
    """The sum of two ways, thing by thing."""
    need_same_houses(first, second)
    one, other, images = first
    return one, other, tuple([plus(other, a, b) for a, b in zip(images, second[2])])


def minus_ways(first, second):
    """The difference of two ways, thing by thing."""
    need_same_houses(first, second)
    one, other, images = first
    return one, other, tuple([minus(other, a, b) for a, b in zip(images, second[2])])


def times_way(many, way):
    """So many times a way; many may be below 0."""
    one, other, images = way
    return one, other, tuple([times(other, many, image) for image in images])
