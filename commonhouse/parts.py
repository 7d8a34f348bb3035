"""Parts of a house, told as stairs [21]."""

from commonhouse.errors import TooGreat
from commonhouse.houses import MOST_THINGS, left_by, need_thing, nought, size
from commonhouse.papers import paper_of
from commonhouse.rows import is_rows, mixed, straight
from commonhouse.stairs import is_reached, is_stair, mixing, stair_of, walked_down
from commonhouse.turns import turn


def is_part(house, thing):
    """Whether a thing, whatever it is, is a part of the house."""
    wide = len(house)
    if not is_rows(wide, thing) or len(thing) != wide or not is_stair(wide, thing):
        return False
    return all(is_reached(thing, row) for row in straight(house))


def need_things(house, some):
    """Refuse some things, if one of them is no thing of the house."""
    for a in some:
        need_thing(house, a)


def part_of(house, some):
    """The part that some things make."""
    need_things(house, some)
    return stair_of(len(house), (*straight(house), *some))


def has(house, part, a):
    """Whether a thing is in the part."""
    need_thing(house, a)
    return is_reached(part, a)


def numbers_for(house, some, a):
    """Numbers, one for each of some things, by which these come to the thing; None where there are none."""
    need_things(house, some)
    need_thing(house, a)
    found = mixing(len(house), (*some, *straight(house)), a)
    if found is None:
        return None
    # Only what is left by its turn counts of how many times a thing is taken.
    return tuple([number % turn(house, b) for number, b in zip(found, some)])


def part_size(house, part):
    """How many things are in the part."""
    feet = tuple([row[at] for at, row in enumerate(part)])
    return size(house) // size(feet)


def carried_on(word, row, place, limit):
    """The words that a word comes to by so many times a row, with a number from 0 to below limit at the
    place of the row's foot, which divides limit; rising.
    """
    foot = row[place]
    low = -(word[place] // foot)
    return [tuple([x + many * y for x, y in zip(word, row)]) for many in range(low, low + limit // foot)]


def things_in(house, part):
    """All things of the part, rising."""
    if part_size(house, part) > MOST_THINGS:
        raise TooGreat("the part has more things than are told")
    # Row k changes nothing ahead of place k; so behind it each word has there what a thing has, and no
    # two words have the same.
    words = [nought(house)]
    for place, row in enumerate(part):
        words = [later for word in words for later in carried_on(word, row, place, house[place])]
    return words


def part_way(house, part):
    """A way from the part's form into the house, which leads to just the things of the part."""
    # The rows of the part are makers of it; its rules tell by which numbers they come to the rounds,
    # which are nought.
    rules = tuple([tuple(walked_down(part, row)[0]) for row in straight(house)])
    form, there, back, whys, turns = paper_of((len(house), rules))
    return form, house, tuple([left_by(house, mixed(len(house), word, part)) for word in back])
