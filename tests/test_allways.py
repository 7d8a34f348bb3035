"""Points 16 and 17: how many ways there are, all of them, and the house of them."""

import itertools
import unittest

import support
from commonhouse.allways import many_ways, thing_of, way_of, ways, ways_house
from commonhouse.errors import NoThing, TooGreat
from commonhouse.waydeeds import plus_ways
from commonhouse.ways import is_way, none_way

HOUSES = [(), (1,), (2,), (3,), (4,), (6,), (1, 1), (2, 2), (2, 4), (4, 2), (3, 2), (1, 2, 1), (2, 2, 2)]
PAIRS = [(one, other) for one in HOUSES for other in HOUSES]
SIX = (1000000, 720720, 999983, 524288, 531441, 999999)


def ways_by_trying(one, other):
    found = []
    for images in itertools.product(support.all_things(other), repeat=len(one)):
        if not any(any(support.many_times(other, limit, image)) for limit, image in zip(one, images)):
            found.append((one, other, images))
    return sorted(found)


class AllWays(unittest.TestCase):
    def test_as_tried(self):
        for one, other in PAIRS:
            found = ways_by_trying(one, other)
            self.assertEqual(many_ways(one, other), len(found), (one, other))
            if len(found) <= 520:
                told = ways(one, other)
                self.assertIs(type(told), list)
                self.assertTrue(support.is_plain(told))
                self.assertEqual(told, found, (one, other))

    def test_each_leads_unlike(self):
        for one, other in [((2, 4), (4, 2)), ((6,), (2, 3)), ((2, 2, 2), (2, 2))]:
            seen = {tuple(support.lead(way, thing) for thing in support.all_things(one)) for way in ways(one, other)}
            self.assertEqual(len(seen), many_ways(one, other))

    def test_520_and_more(self):
        for one, other, many in [((520,), (520,), 520), ((521,), (521,), 521), ((2, 2, 2), (2, 2, 2), 512),
                                 ((4, 130), (130,), 260), ((1, 520), (1, 520), 520), ((8, 66), (66,), 132),
                                 ((23, 23), (23,), 529), ((522,), (522,), 522), ((1, 1, 1, 1, 1, 521), (521,), 521)]:
            self.assertEqual(many_ways(one, other), many)
            if many <= 520:
                told = ways(one, other)
                self.assertEqual((len(told), told), (many, sorted(told)))
                self.assertTrue(all(is_way(way) for way in told))
                self.assertEqual(len(set(told)), many)
            else:
                support.refused(self, TooGreat, ways, one, other)

    def test_between_great_houses(self):
        cases = [((999960,), (998920,), 520), ((1000000,), (999983,), 1), ((1000000,) * 6, (999999,) * 6, 1),
                 ((999983,) * 3, (10 ** 36, 3, 999979), 1), ((520 * 10 ** 60,), (520 * (10 ** 60 + 1),), 520),
                 ((1,) * 6, (1000000,) * 6, 1), ((1000000,) * 6, (1,) * 6, 1), ((2 * 10 ** 60,), (2 * 999983,) * 6, 64),
                 ((1, 1, 1, 1, 1, 1000000), (5 * 999979,) * 3, 125), ((1000000,) * 6, (), 1), ((), (1000000,) * 6, 1)]
        with support.good_time():
            for one, other, many in cases:
                self.assertEqual(many_ways(one, other), many, (one, other))
                told = ways(one, other)
                self.assertEqual((len(told), len(set(told)), told), (many, many, sorted(told)))
                self.assertTrue(all(support.shows_a_way(one, other, way) for way in told))
            for one, other in [((1000000,), (1000000,)), ((1000000,) * 6, (1000000,) * 6), ((10 ** 60,), (10 ** 60,))]:
                support.refused(self, TooGreat, ways, one, other)
        self.assertEqual(many_ways((1000000,) * 6, (1000000,) * 6), 10 ** 216)
        self.assertEqual(many_ways((10 ** 60, 6), (10 ** 70, 4)), 10 ** 60 * 4 * 2 * 2)

    def test_a_told_list_is_the_askers_own(self):
        told = ways((2,), (4,))
        told.reverse()
        told.append(None)
        self.assertEqual(ways((2,), (4,)), [((2,), (4,), ((0,),)), ((2,), (4,), ((2,),))])
        ways((), ()).clear()
        self.assertEqual(ways((), ()), [((), (), ())])

    def test_what_is_handed_in_stays_as_it_was(self):
        one, other = (2, 4), (4, 2)
        ways(one, other)
        thing_of(way_of(one, other, (1, 1, 3, 1)))
        self.assertEqual((one, other), ((2, 4), (4, 2)))


class HouseOfWays(unittest.TestCase):
    def test_examples(self):
        self.assertEqual(ways_house((4, 6), (8, 9)), (4, 1, 2, 3))
        self.assertEqual(way_of((4, 6), (8, 9), (1, 0, 1, 2)), ((4, 6), (8, 9), ((2, 0), (4, 6))))
        self.assertEqual(thing_of(((4, 6), (8, 9), ((6, 0), (4, 3)))), (3, 0, 1, 1))
        self.assertEqual(ways_house((), (2, 3)), ())
        self.assertEqual(ways_house((2, 3), ()), ())
        self.assertEqual(way_of((), (2, 3), ()), ((), (2, 3), ()))
        self.assertEqual(way_of((2, 3), (), ()), ((2, 3), (), ((), ())))
        self.assertEqual(thing_of(((2, 3), (), ((), ()))), ())

    def test_each_thing_is_one_way(self):
        for one, other in PAIRS:
            if len(one) * len(other) > 6:
                continue
            house = ways_house(one, other)
            self.assertTrue(support.is_plain(house))
            found = []
            for thing in support.all_things(house):
                way = way_of(one, other, thing)
                self.assertTrue(support.shows_a_way(one, other, way), (one, other, thing))
                self.assertEqual(thing_of(way), thing)
                found.append(way)
            self.assertEqual(sorted(found), ways_by_trying(one, other))

    def test_sums_as_sums(self):
        for one, other in [((2, 4), (4, 2)), ((6,), (4, 3)), ((1, 2), (2, 1)), ((4,), (8,)), ((), (2,))]:
            house = ways_house(one, other)
            for a in support.all_things(house):
                for b in support.all_things(house):
                    way = plus_ways(way_of(one, other, a), way_of(one, other, b))
                    self.assertEqual(thing_of(way), support.sum_of(house, a, b))
                    self.assertEqual(way_of(one, other, support.sum_of(house, a, b)), way)

    def test_six_rounds_and_rounds_of_one(self):
        source = support.chance(81)
        for one, other in [(SIX, (720720,)), ((720720,), SIX), (SIX[:3], SIX[3:5]), (SIX[:2], SIX[3:]), ((1,) * 6, (5,)),
                           ((1, 4), (1, 6, 1)), ((10 ** 60, 1, 6), (10 ** 50, 4)), ((1,), (1,) * 6)]:
            house = ways_house(one, other)
            self.assertEqual(len(house), len(one) * len(other))
            many = 1
            for limit in house:
                many *= limit
            self.assertEqual(many, many_ways(one, other))
            self.assertEqual(thing_of(none_way(one, other)), (0,) * len(house))
            for _ in range(20):
                thing = support.some_thing(source, house)
                way = way_of(one, other, thing)
                self.assertTrue(support.shows_a_way(one, other, way))
                self.assertTrue(is_way(way))
                self.assertEqual(thing_of(way), thing)

    def test_what_is_no_thing(self):
        for thing in support.ODD_THINGS + [(0, 0, 0), (0,) * 5, (4, 0, 0, 0), (0, 1, 0, 0), (0, 0, 2, 0), (0, 0, 0, 3),
                                           (-1, 0, 0, 0), [0, 0, 0, 0], ((4, 6), (8, 9), ((0, 0), (0, 0)))]:
            support.refused(self, NoThing, way_of, (4, 6), (8, 9), thing)
        for thing in support.ODD_THINGS + [(0,), []]:
            support.refused(self, NoThing, way_of, (), (8, 9), thing)
            support.refused(self, NoThing, way_of, (8, 9), (), thing)
        support.refused(self, NoThing, way_of, (10 ** 60,), (10 ** 61,), (10 ** 60,))


if __name__ == "__main__":
    unittest.main()
