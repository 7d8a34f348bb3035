"""The shut part of a part [29]."""

from commonhouse.falls import falls
from commonhouse.turns import last_turn
from commonhouse.voices import strengths


def shut(house, part):
    """The part of all voices that say 0 to all things of a part."""
    # What a voice says to the rows of the part, row by row, is told by a way from the house to one with
    # the last turn as each round; just the voices that are sought fall by it.
    last = last_turn(house)
    images = []
    for place, strength in enumerate(strengths(house)):
        images.append(tuple([row[place] * strength % last for row in part]))
    return falls((house, tuple([last for limit in house]), tuple(images)))
