"""What falls by a way, what is reached, and parts led along and back [25]."""

from commonhouse.houses import nought
from commonhouse.parts import part_of
from commonhouse.rows import product, straight, units
from commonhouse.stairs import stair_behind, stair_of


def falls(way):
    """The part of one that is led to nought."""
    return part_back(way, straight(way[1]))


def reached(way):
    """The part of other to which something is led."""
    return part_of(way[1], way[2])


def part_along(way, part):
    """The part of other to which the things of a part of one are led."""
    one, other, images = way
    wide = len(other)
    return stair_of(wide, (*straight(other), *product(wide, part, images)))


def part_back(way, part):
    """The part of one whose things are led into a part of other."""
    # Behind each image stands by which word of one it is come to. Where images so mixed are in the part,
    # rows of the part bring them to 0, and that word is left behind. The rounds of one, which are led
    # there anyway, keep the numbers on the way small.
    one, other, images = way
    held = [row + nought(one) for row in part]
    limits = [nought(other) + row for row in straight(one)]
    led_words = [image + unit for image, unit in zip(images, units(len(one)))]
    return stair_behind(len(other), len(one), (*held, *limits, *led_words))
