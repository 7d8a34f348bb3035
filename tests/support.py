"""What several test files share."""

import contextlib
import itertools
import math
import random
import signal

from commonhouse import errors

EIGHT_DEEP = ((((((((1,),),),),),),),)

# Things of many kinds. None of them is a house of two rounds, a thing of one, rows, a step or a given house.
ODD_THINGS = [
    None, True, False, "", "add", "1", "(1, 2)", b"", b"ab", 0, 1, -1, 10 ** 40, [], [1, 2], [[1, 2]], {},
    {1: 2}, {0: 1, 1: 1}, set(), {1, 2}, frozenset({1, 2}), object(), object, len, range(2), EIGHT_DEEP,
    (None, None), (True, False), (True, True), (1, True), ("1", "2"), ("", ""), ((), ()), ([], []), ((1,), (1,)),
    (1, None), (1, "1"), ("a",), ({}, {}), (b"a", b"b"),
]

# None of these is a thing of the house (4, 6).
NO_THINGS = ODD_THINGS + [(), (0,), (0, 0, 0), (4, 0), (0, 6), (-1, 0), (0, -1), [0, 0], (10 ** 40, 0), ("0", 0), ((0, 0),)]

SIX = (1000000, 720720, 999983, 524288, 531441, 999999)
# Houses of six rounds, of rounds of 1, and told ones, which may be however great.
GREAT = [SIX, (1000000,) * 6, (1, 1, 1, 1, 1, 1000000), (720720, 1, 360360), (12 * 10 ** 40, 10 ** 60, 6 * 10 ** 50)]

REFUSALS = [
    errors.NoThing, errors.TooGreat, errors.Endless, errors.NoPaper, errors.NoFit, errors.NoTable, errors.NoText,
    errors.NoName, errors.NoRow,
]


def refused(test, kind, asked, *handed):
    """The refusal, which is caught as its own class, as HouseError, as ValueError, and as none of the others."""
    before = repr(handed)
    with test.assertRaises(kind, msg=before) as held:
        asked(*handed)
    test.assertIsInstance(held.exception, errors.HouseError)
    test.assertIsInstance(held.exception, ValueError)
    test.assertEqual([other for other in REFUSALS if isinstance(held.exception, other)], [kind])
    test.assertEqual(repr(handed), before)
    return held.exception


def chance(seed):
    """The same numbers in each run."""
    return random.Random(seed)


def some_rows(source, many, wide, low, high):
    return tuple(tuple(source.randint(low, high) for _ in range(wide)) for _ in range(many))


def all_things(house):
    """All things of a small house, reckoned apart from the program."""
    return list(itertools.product(*[range(limit) for limit in house]))


def turn_of(house, thing):
    """The turn of a thing of a small house, by trying."""
    return next(n for n in itertools.count(1) if not any(many_times(house, n, thing)))


def made_by(house, some):
    """The set of all things that some things make in a small house, reckoned apart from the program."""
    found = {(0,) * len(house)}
    for thing in some:
        steps = [many_times(house, many, thing) for many in range(turn_of(house, thing))]
        found = {sum_of(house, one, other) for one in found for other in steps}
    return frozenset(found)


def part_sets(house):
    """All parts of a small house as sets of things, reckoned apart from the program."""
    found = {made_by(house, ())}
    fresh = list(found)
    while fresh:
        held = fresh.pop()
        for thing in all_things(house):
            if thing not in held:
                steps = made_by(house, (thing,))
                more = frozenset(sum_of(house, one, other) for one in held for other in steps)
                if more not in found:
                    found.add(more)
                    fresh.append(more)
    return found


def reached_by(stair, word):
    """Whether a stair reaches a word, reckoned apart from the program."""
    word = list(word)
    for row in stair:
        foot = next(place for place, number in enumerate(row) if number != 0)
        many = word[foot] // row[foot]
        word = [x - many * y for x, y in zip(word, row)]
    return not any(word)


def shows_a_stair(wide, rows):
    """Whether rows are a stair, by the document's words one by one."""
    feet = [next((place for place in range(wide) if row[place] != 0), None) for row in rows]
    if None in feet or any(row[foot] < 0 for row, foot in zip(rows, feet)):
        return False
    if any(one >= other for one, other in zip(feet, feet[1:])):
        return False
    return all(0 <= rows[above][foot] < rows[at][foot] for at, foot in enumerate(feet) for above in range(at))


def shows_a_part(house, part):
    """Whether a told thing is a part of the house, by the document's words."""
    wide = len(house)
    if type(part) is not tuple or len(part) != wide or not is_plain(part):
        return False
    if not all(type(row) is tuple and len(row) == wide for row in part) or not shows_a_stair(wide, part):
        return False
    return all(
        reached_by(part, tuple(limit * int(place == at) for place in range(wide))) for at, limit in enumerate(house)
    )


def set_of(house, part):
    """The things of a part of a small house, reckoned apart from the program."""
    return frozenset(thing for thing in all_things(house) if reached_by(part, thing))


def nought_part(house):
    """The part of nought alone."""
    return tuple(tuple(limit * int(place == at) for place in range(len(house))) for at, limit in enumerate(house))


def whole_part(house):
    """The part of all things."""
    return square_units(len(house))


def stair_for(house, held):
    """The part that tells a set of things of a small house, reckoned apart from the program."""
    rows = []
    for at, limit in reversed(list(enumerate(house))):
        ahead = (0,) * at
        # The foot is the least number at the place that such a thing has, the round if all have 0 there.
        foot = min((thing[at] for thing in held if thing[:at] == ahead and thing[at]), default=limit)
        some = [thing for thing in held if thing[:at + 1] == ahead + (foot % limit,)]
        behind = next(
            thing[at + 1:] for thing in some if all(0 <= thing[at + 1 + k] < rows[k][at + 1 + k] for k in range(len(rows)))
        )
        rows.insert(0, ahead + (foot,) + behind)
    return tuple(rows)


def some_way(source, one, other):
    """A way from one to other, however great they are."""
    images = []
    for limit in one:
        strides = [place // math.gcd(limit, place) for place in other]
        images.append(tuple(source.randrange(place // stride) * stride for place, stride in zip(other, strides)))
    return one, other, tuple(images)


def some_turning(source, house, many=40):
    """A turning of the house: steps that can be taken back, one behind the other; its houses however great."""
    images = [list(thing) for thing in things_with_one(house)]
    for _ in range(many if house else 0):
        at, by = source.randrange(len(house)), source.randrange(len(house))
        if at != by:
            # The thing with 1 at this place is led to itself and a thing at another place, whose turn divides
            # the round; all other such things are led to themselves.
            stride = house[by] // math.gcd(house[by], house[at])
            times = source.randrange(house[by] // stride) * stride
            images[at] = [(x + times * y) % limit for x, y, limit in zip(images[at], images[by], house)]
    return house, house, tuple(tuple(image) for image in images)


def some_part(source, house, program, many=2):
    """A part that some things make, some of them so many times others; program is part_of."""
    some = [many_times(house, source.choice((1, 2, 3, 60, 1001)), some_thing(source, house)) for _ in range(many)]
    return program(house, some)


def some_thing(source, house):
    return tuple(source.randrange(limit) for limit in house)


def sum_of(house, one, other):
    """The sum of two things, reckoned apart from the program."""
    return tuple((x + y) % limit for x, y, limit in zip(one, other, house))


def many_times(house, many, thing):
    """So many times a thing, reckoned apart from the program."""
    return tuple(many * x % limit for x, limit in zip(thing, house))


def lead(way, thing):
    """Where a way leads a thing, reckoned apart from the program."""
    one, other, images = way
    found = (0,) * len(other)
    for many, image in zip(thing, images):
        found = sum_of(other, found, many_times(other, many, image))
    return found


def things_with_one(house):
    """The things with 1 at one place, as far as the round lets them have it; they make all things."""
    return [tuple(int(place == at) % limit for place, limit in enumerate(house)) for at in range(len(house))]


def shows_a_way(one, other, way):
    """Whether a told thing is a way between these two, by the document's words."""
    if type(way) is not tuple or len(way) != 3 or way[:2] != (one, other) or not is_plain(way):
        return False
    images = way[2]
    if type(images) is not tuple or len(images) != len(one):
        return False
    if not all(type(image) is tuple and len(image) == len(other) for image in images):
        return False
    if not all(0 <= x < limit for image in images for x, limit in zip(image, other)):
        return False
    return not any(any(many_times(other, limit, image)) for limit, image in zip(one, images))


def there_and_back(there, back):
    """Whether of two ways each takes the other one back: so on things with one 1, and so on all."""
    return all(
        lead(back, lead(there, thing)) == thing for thing in things_with_one(there[0])
    ) and all(lead(there, lead(back, thing)) == thing for thing in things_with_one(back[0]))


def times_product(one, other, wide):
    """Rows multiplied, reckoned apart from the program."""
    return tuple(
        tuple(sum(row[k] * other[k][place] for k in range(len(other))) for place in range(wide)) for row in one
    )


def square_units(n):
    return tuple((0,) * k + (1,) + (0,) * (n - k - 1) for k in range(n))


def most_figures(rows):
    return max((len(str(abs(number))) for row in rows for number in row), default=0)


def is_plain(told):
    """Whether what is told is of the plain kinds alone, all the way down."""
    if told is None or type(told) in (bool, int, str):
        return True
    return type(told) in (tuple, list) and all(is_plain(part) for part in told)


@contextlib.contextmanager
def good_time(seconds=60):
    """Break off what doesn't come to an end; the time is long, so that slow machines don't matter."""

    def late(number, frame):
        raise AssertionError(f"no answer within {seconds} seconds")

    before = signal.signal(signal.SIGALRM, late)
    signal.alarm(seconds)
    try:
        yield
    finally:
        signal.alarm(0)
        signal.signal(signal.SIGALRM, before)
