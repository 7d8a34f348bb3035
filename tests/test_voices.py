"""Point 28: what voices say, how often, and which voice parts two unlike things."""

import collections
import math
import unittest

import support
from commonhouse.errors import NoThing, TooGreat
from commonhouse.houses import size
from commonhouse.turns import last_turn, turn
from commonhouse.voices import parting_voice, says, sayings

HOUSES = [(), (1,), (2,), (12,), (1, 1), (2, 2), (4, 2), (4, 6), (1, 4), (2, 3, 2), (3, 1, 3), (2, 4, 8), (5, 7), (1, 1, 1, 1, 1, 6)]


def said(house, c, a):
    """What a voice says, reckoned apart from the program: by shares of a whole, which the last turn counts."""
    last = math.lcm(*house)
    return sum(x * y * (last // limit) for x, y, limit in zip(c, a, house)) % last


class Says(unittest.TestCase):
    def test_small_houses_all(self):
        for house in HOUSES:
            for c in support.all_things(house):
                for a in support.all_things(house):
                    told = says(house, c, a)
                    self.assertIs(type(told), int)
                    self.assertEqual(told, said(house, c, a), (house, c, a))

    def test_examples(self):
        self.assertEqual(says((4, 6), (1, 1), (1, 1)), 5)
        self.assertEqual(says((4, 6), (3, 5), (2, 4)), 10)
        self.assertEqual(says((4, 6), (1, 0), (0, 5)), 0)
        self.assertEqual(says((), (), ()), 0)
        self.assertEqual(says((1,), (0,), (0,)), 0)

    def test_sums_are_said_sums(self):
        source = support.chance(241)
        for house in support.GREAT:
            last = last_turn(house)
            for _ in range(10):
                a, b, c = (support.some_thing(source, house) for _ in range(3))
                self.assertEqual(says(house, c, a), said(house, c, a))
                self.assertEqual(says(house, c, a), says(house, a, c))
                self.assertEqual(says(house, c, support.sum_of(house, a, b)), (says(house, c, a) + says(house, c, b)) % last)

    def test_what_is_no_thing(self):
        for thing in support.NO_THINGS:
            support.refused(self, NoThing, says, (4, 6), thing, (1, 1))
            support.refused(self, NoThing, says, (4, 6), (1, 1), thing)
            support.refused(self, NoThing, says, (4, 6), thing, thing)
        for house, thing in [((), (0,)), ((), []), ((), None), ((1,), (1,)), ((1,), ()), ((10 ** 60,), (10 ** 60,)), ((10 ** 60,), (-1,))]:
            support.refused(self, NoThing, says, house, thing, (0,) * len(house))
            support.refused(self, NoThing, says, house, (0,) * len(house), thing)


class Sayings(unittest.TestCase):
    def test_small_houses_all(self):
        for house in HOUSES:
            for c in support.all_things(house):
                counted = collections.Counter(said(house, c, a) for a in support.all_things(house))
                told = sayings(house, c)
                self.assertIs(type(told), list)
                self.assertTrue(support.is_plain(told))
                self.assertEqual(told, sorted(counted.items()), (house, c))
                self.assertEqual(len({many for _, many in told}), 1)

    def test_great_houses(self):
        source = support.chance(242)
        with support.good_time():
            for house in support.GREAT:
                last = last_turn(house)
                self.assertEqual(sayings(house, (0,) * len(house)), [(0, size(house))])
                for n in (2, 10, 400 if last % 400 == 0 else 1):
                    c = tuple((limit // math.gcd(limit, n)) * source.randrange(1, n + 1) % limit for limit in house)
                    told = sayings(house, c)
                    self.assertEqual(len(told), turn(house, c))
                    self.assertEqual(sum(many for _, many in told), size(house))
                    numbers = dict(told)
                    for _ in range(20):
                        self.assertIn(says(house, c, support.some_thing(source, house)), numbers)

    def test_400_and_more(self):
        for house, c, many in [((400,), (1,), 400), ((800,), (2,), 400), ((1, 1, 1, 1, 1, 1000000), (0, 0, 0, 0, 0, 2500), 400),
                               ((16, 25), (1, 1), 400), ((400 * 10 ** 60,), (10 ** 60,), 400), ((1000000,) * 6, (2500,) * 6, 400)]:
            told = sayings(house, c)
            apart = last_turn(house) // many
            self.assertEqual(told, [(apart * k, size(house) // many) for k in range(many)])
        for house, c in [((401,), (1,)), ((802,), (2,)), ((1000000,), (2000,)), ((1000000,) * 6, (1,) * 6), ((10 ** 60,), (1,)), ((17, 25), (1, 1))]:
            support.refused(self, TooGreat, sayings, house, c)

    def test_no_thing_ahead_of_too_great(self):
        for thing in support.NO_THINGS:
            support.refused(self, NoThing, sayings, (4, 6), thing)
        for thing in support.ODD_THINGS + [(1000000, 0), (-1, 0), (1,), (1, 1, 1), [1, 1], (0, 10 ** 60)]:
            support.refused(self, NoThing, sayings, (1000000, 10 ** 60), thing)

    def test_a_told_list_is_the_askers_own(self):
        told = sayings((4,), (2,))
        told.reverse()
        told.append(None)
        self.assertEqual(sayings((4,), (2,)), [(0, 2), (2, 2)])


class Parting(unittest.TestCase):
    def check(self, house, a, b):
        c = parting_voice(house, a, b)
        self.assertIs(type(c), tuple)
        self.assertTrue(support.is_plain(c))
        self.assertEqual(len(c), len(house))
        self.assertTrue(all(0 <= x < limit for x, limit in zip(c, house)), (house, a, b))
        self.assertNotEqual(said(house, c, a), said(house, c, b), (house, a, b))
        self.assertNotEqual(says(house, c, a), says(house, c, b), (house, a, b))

    def test_small_houses_all(self):
        for house in HOUSES:
            for a in support.all_things(house):
                self.assertIsNone(parting_voice(house, a, a))
                for b in support.all_things(house):
                    if a != b:
                        self.check(house, a, b)

    def test_great_houses(self):
        source = support.chance(243)
        for house in support.GREAT:
            for _ in range(10):
                a, b = support.some_thing(source, house), support.some_thing(source, house)
                self.check(house, a, b)
                self.assertIsNone(parting_voice(house, a, tuple(list(a))))
            for thing in support.things_with_one(house):
                if any(thing):
                    self.check(house, a, support.sum_of(house, a, thing))

    def test_what_is_no_thing(self):
        for thing in support.NO_THINGS:
            support.refused(self, NoThing, parting_voice, (4, 6), thing, (1, 1))
            support.refused(self, NoThing, parting_voice, (4, 6), (1, 1), thing)
            support.refused(self, NoThing, parting_voice, (4, 6), thing, thing)


if __name__ == "__main__":
    unittest.main()
