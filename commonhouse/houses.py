"""Houses told by rounds, and the sums of their things [5]."""

from commonhouse.errors import NoThing, TooGreat
from commonhouse.numbers import is_whole

MOST_ROUNDS = 6
MOST_THINGS = 400


def is_house(thing):
    """Whether a thing, whatever it is, is a house."""
    if not isinstance(thing, tuple) or len(thing) > MOST_ROUNDS:
        return False
    return all(is_whole(number) and number >= 1 for number in thing)


def is_thing(house, thing):
    """Whether a thing, whatever it is, is a thing of the house."""
    if not isinstance(thing, tuple) or len(thing) != len(house):
        return False
    return all(is_whole(number) and 0 <= number < limit for number, limit in zip(thing, house))


def are_things(house, many, thing):
    """Whether a thing, whatever it is, is a tuple of so many things of the house."""
    if not isinstance(thing, tuple) or len(thing) != many:
        return False
    return all(is_thing(house, part) for part in thing)


def need_thing(house, thing):
    """Refuse what is no thing of the house, whatever it is."""
    if not is_thing(house, thing):
        raise NoThing("this is no thing of the house")


def left_by(house, word):
    """The thing that is left of a word, each number by its round."""
    return tuple([number % limit for number, limit in zip(word, house)])


def nought(house):
    """The thing with 0 everywhere."""
    return tuple([0 for limit in house])


def plus(house, a, b):
    """The sum of two things."""
    need_thing(house, a)
    need_thing(house, b)
    return left_by(house, [x + y for x, y in zip(a, b)])


def minus(house, a, b):
    """The difference of two things."""
    need_thing(house, a)
    need_thing(house, b)
    return left_by(house, [x - y for x, y in zip(a, b)])


def times(house, many, a):
    """So many times a thing; many may be below 0."""
    need_thing(house, a)
    return left_by(house, [many * x for x in a])


def size(house):
    """How many things there are."""
    many = 1
    for limit in house:
        many *= limit
    return many


def things(house):
    """All things, rising."""
    if size(house) > MOST_THINGS:
        raise TooGreat("the house has more things than are told")
    found = [()]
    for limit in house:
        found = [(*ahead, number) for ahead in found for number in range(limit)]
    return found
