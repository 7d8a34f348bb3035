"""The one form of a house, and the ways to it and back [18]."""

from commonhouse.houses import left_by
from commonhouse.numbers import common_measure, common_multiple
from commonhouse.papers import paper_of
from commonhouse.rows import straight


def form_of(house):
    """The form of the house."""
    # Two rounds may always be put as their common measure and their common multiple. So each round
    # becomes the measure of all from it on, and divides the next.
    limits = list(house)
    for at in range(len(limits)):
        for later in range(at + 1, len(limits)):
            one, other = limits[at], limits[later]
            limits[at], limits[later] = common_measure(one, other), common_multiple(one, other)
    return tuple([limit for limit in limits if limit > 1])


def to_form(house):
    """(form, there, back): a way to the form and the one back."""
    # A house told by rounds is also given by a maker for each round, with the rounds as rules.
    form, there, words, whys, turns = paper_of((len(house), straight(house)))
    back = tuple([left_by(house, word) for word in words])
    return form, (house, form, there), (form, house, back)
