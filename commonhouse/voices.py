"""Voices of a house: what its things say to things [28]."""

from commonhouse.errors import TooGreat
from commonhouse.houses import need_thing, size
from commonhouse.turns import last_turn, turn
from commonhouse.ways import stay

MOST_SAYINGS = 400


def strengths(house):
    """For each round the last turn // the round: as much counts there what is said."""
    last = last_turn(house)
    return tuple([last // limit for limit in house])


def says(house, c, a):
    """What the voice c says to the thing a."""
    need_thing(house, c)
    need_thing(house, a)
    return sum([x * y * strength for x, y, strength in zip(c, a, strengths(house))]) % last_turn(house)


def sayings(house, c):
    """All that a voice says, each number with how many things it is said to, rising."""
    # So many times as its turn a voice says 0 to all, and fewer times it doesn't; sums are said sums. So
    # it says as many numbers as its turn is, one as far from the next as another, each alike often.
    many = turn(house, c)
    if many > MOST_SAYINGS:
        raise TooGreat("the voice says more numbers than are told")
    apart = last_turn(house) // many
    return [(number * apart, size(house) // many) for number in range(many)]


def parting_voice(house, a, b):
    """A voice that doesn't say the same to two unlike things, None of like ones."""
    need_thing(house, a)
    need_thing(house, b)
    # With 1 at a place where they are unlike, and 0 else, the voice hears that place alone.
    found = [c for c, x, y in zip(stay(house)[2], a, b) if x != y]
    return found[0] if found else None
