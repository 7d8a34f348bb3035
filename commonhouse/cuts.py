"""A house cut by a part, and ways folded [26]."""

from commonhouse.falls import falls
from commonhouse.houses import left_by
from commonhouse.papers import paper_of
from commonhouse.ways import led


def cut_with_makers(house, part):
    """(way, makers): the house cut by a part, and for each round of the form a thing of the house that is
    led to the thing with 1 there and 0 else.
    """
    # The house cut is given by a maker for each round, with the rows of the part, the rounds among what
    # they reach, as rules.
    form, there, back, whys, turns = paper_of((len(house), part))
    return (house, form, there), tuple([left_by(house, word) for word in back])


def cut(house, part):
    """A way from the house to a form, by which each thing of the form is reached and just the part falls."""
    way, makers = cut_with_makers(house, part)
    return way


def folded(way):
    """(first, second): first then second is the way; first cuts by what falls, second leads unlike things
    to unlike ones.
    """
    first, makers = cut_with_makers(way[0], falls(way))
    return first, (first[1], way[1], tuple([led(way, a) for a in makers]))
