"""Point 16: ways chained, summed, and taken so many times."""

import unittest

import support
from commonhouse.allways import ways
from commonhouse.errors import NoFit
from commonhouse.waydeeds import minus_ways, plus_ways, then, times_way
from commonhouse.ways import is_way, led, none_way, stay

PAIRS = [((), ()), ((), (3,)), ((3,), ()), ((1,), (4,)), ((2,), (4,)), ((4,), (2, 2)), ((2, 4), (4, 2)), ((6,), (4, 1, 3))]
THIRTY = 10 ** 30 - 1


class Then(unittest.TestCase):
    def test_one_behind_the_other(self):
        for one, between, other in [((2,), (4,), (2, 2)), ((), (2,), (2,)), ((2,), (), (2,)), ((2, 4), (4,), (1, 2)),
                                    ((6,), (2, 3), (3, 2))]:
            for first in ways(one, between):
                for second in ways(between, other):
                    way = then(first, second)
                    self.assertTrue(support.shows_a_way(one, other, way))
                    for thing in support.all_things(one):
                        self.assertEqual(led(way, thing), support.lead(second, support.lead(first, thing)))

    def test_stay_changes_nothing_and_none_leads_to_none(self):
        for one, other in PAIRS:
            for way in ways(one, other):
                self.assertEqual(then(stay(one), way), way)
                self.assertEqual(then(way, stay(other)), way)
                self.assertEqual(then(way, none_way(other, (5, 2))), none_way(one, (5, 2)))

    def test_no_fit(self):
        way = ((4, 6), (8, 9), ((2, 0), (4, 3)))
        for second in [way, stay((9, 8)), stay((8,)), stay((8, 9, 1)), stay(()), stay((72,)), none_way((4, 6), (2,))]:
            support.refused(self, NoFit, then, way, second)
        support.refused(self, NoFit, then, stay(()), stay((1,)))
        support.refused(self, NoFit, then, stay((10 ** 50,)), stay((10 ** 50 + 1,)))

    def test_great_houses(self):
        one, other = (10 ** 36, 1000000), (10 ** 40,)
        first = (one, other, ((7 * 10 ** 4,), (3 * 10 ** 34,)))
        second = (other, one, ((10 ** 35, 123456),))
        self.assertTrue(is_way(first) and is_way(second))
        way = then(first, second)
        self.assertTrue(support.shows_a_way(one, one, way))
        for thing in [(10 ** 36 - 1, 999999), (1, 0), (0, 1)]:
            self.assertEqual(led(way, thing), support.lead(second, support.lead(first, thing)))


class Sums(unittest.TestCase):
    def test_thing_by_thing(self):
        for one, other in PAIRS:
            everything = support.all_things(one)
            for first in ways(one, other):
                for second in ways(one, other):
                    more, less = plus_ways(first, second), minus_ways(first, second)
                    self.assertTrue(support.shows_a_way(one, other, more) and support.shows_a_way(one, other, less))
                    self.assertEqual(minus_ways(more, second), first)
                    for thing in everything:
                        a, b = support.lead(first, thing), support.lead(second, thing)
                        self.assertEqual(led(more, thing), support.sum_of(other, a, b))
                        self.assertEqual(led(less, thing), support.sum_of(other, a, support.many_times(other, -1, b)))

    def test_no_fit(self):
        way = ((4, 6), (8, 9), ((2, 0), (4, 3)))
        others = [none_way((6, 4), (8, 9)), none_way((4, 6), (9, 8)), none_way((4,), (8, 9)), none_way((4, 6), (8,)),
                  none_way((4, 6, 1), (8, 9)), none_way((4, 6), (8, 9, 1)), none_way((), ()), none_way((8, 9), (4, 6))]
        for asked in (plus_ways, minus_ways):
            for other in others:
                support.refused(self, NoFit, asked, way, other)
                support.refused(self, NoFit, asked, other, way)

    def test_great_houses(self):
        house = (10 ** 60, 1000000)
        double = plus_ways(stay(house), stay(house))
        self.assertEqual(double, (house, house, ((2, 0), (0, 2))))
        self.assertEqual(minus_ways(double, stay(house)), stay(house))
        self.assertEqual(minus_ways(none_way(house, house), stay(house))[2], ((10 ** 60 - 1, 0), (0, 999999)))


class Times(unittest.TestCase):
    def test_thing_by_thing(self):
        for one, other in PAIRS:
            for way in ways(one, other):
                for many in [0, 1, 2, 3, 7, -1, -2, -13, THIRTY, -THIRTY]:
                    told = times_way(many, way)
                    self.assertTrue(support.shows_a_way(one, other, told))
                    for thing in support.all_things(one):
                        self.assertEqual(led(told, thing), support.many_times(other, many, support.lead(way, thing)))
                self.assertEqual(times_way(0, way), none_way(one, other))
                self.assertEqual(times_way(1, way), way)
                self.assertEqual(times_way(-1, way), minus_ways(none_way(one, other), way))

    def test_great_houses(self):
        house = (10 ** 60, 1000000)
        self.assertEqual(times_way(-THIRTY, stay(house))[2], ((10 ** 60 - THIRTY, 0), (0, -THIRTY % 1000000)))

    def test_what_is_handed_in_stays_as_it_was(self):
        way = ((4, 6), (8, 9), ((2, 0), (4, 3)))
        before = repr(way)
        times_way(5, way)
        plus_ways(way, way)
        minus_ways(way, way)
        then(way, stay((8, 9)))
        self.assertEqual(repr(way), before)


if __name__ == "__main__":
    unittest.main()
