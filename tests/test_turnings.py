"""Point 27: turnings of a house, each with the one back."""

import unittest

import support
from commonhouse.allways import many_ways, ways
from commonhouse.errors import TooGreat
from commonhouse.forms import form_of, to_form
from commonhouse.houses import size
from commonhouse.turnings import is_turning, many_turnings, turned_back, turnings
from commonhouse.waydeeds import then, times_way
from commonhouse.ways import is_way, none_way, stay

# None of them has more than 520 ways to itself.
HOUSES = [(), (1,), (1, 1), (2,), (12,), (30,), (2, 2), (2, 4), (4, 2), (1, 6, 1), (6, 2), (3, 3), (4, 4), (2, 8), (8, 2), (2, 2, 3),
          (2, 2, 2), (3, 1, 9), (4, 6), (2, 3, 4), (2, 2, 1, 1, 2), (1, 1, 1, 1, 1, 16), (5, 2), (9, 2)]


def squares(prime, wide):
    """How many square rows by a prime can be taken back: each row is none of those that the ones ahead make."""
    found = 1
    for at in range(wide):
        found *= prime ** wide - prime ** at
    return found


def by_places(prime, powers):
    """The turnings of a house of powers of a prime, counted place by place, in another way than the program does."""
    powers = sorted(powers)
    found = 1
    for at, often in enumerate(powers):
        last = max(k + 1 for k, other in enumerate(powers) if other == often)
        first = min(k + 1 for k, other in enumerate(powers) if other == often)
        found *= prime ** last - prime ** at
        found *= (prime ** often) ** (len(powers) - last) * (prime ** (often - 1)) ** (len(powers) - first + 1)
    return found


class All(unittest.TestCase):
    def test_small_houses(self):
        for house in HOUSES:
            everything = support.all_things(house)
            expected = [way for way in ways(house, house) if len({support.lead(way, thing) for thing in everything}) == len(everything)]
            told = turnings(house)
            self.assertIs(type(told), list)
            self.assertTrue(support.is_plain(told))
            self.assertEqual(told, sorted(expected), house)
            self.assertEqual(many_turnings(house), len(expected), house)

    def test_examples(self):
        self.assertEqual(turnings(()), [((), (), ())])
        self.assertEqual(turnings((1,)), [((1,), (1,), ((0,),))])
        self.assertEqual(turnings((4,)), [((4,), (4,), ((1,),)), ((4,), (4,), ((3,),))])
        self.assertEqual(len(turnings((2, 2))), 6)
        self.assertEqual(len(turnings((2, 2, 2))), 168)

    def test_houses_of_520_ways_and_more(self):
        with support.good_time():
            for house, many in [((520,), 192), ((1, 1, 1, 1, 1, 520), 192), ((8, 65), 192), ((512,), 256), ((2, 2, 2), 168), ((4, 4), 96)]:
                self.assertLessEqual(many_ways(house, house), 520)
                told = turnings(house)
                self.assertEqual(len(told), many, house)
                self.assertEqual(told, sorted(told))
                self.assertEqual(many_turnings(house), many)
            for house in [(521,), (1, 521), (2, 2, 4), (2, 2, 2, 2), (5, 5, 1), (23, 23), (1000000,), (1000000,) * 6, (10 ** 60,), (6, 6)]:
                self.assertGreater(many_ways(house, house), 520)
                support.refused(self, TooGreat, turnings, house)

    def test_a_told_list_is_the_askers_own(self):
        told = turnings((4,))
        told.reverse()
        told.append(None)
        self.assertEqual(turnings((4,)), [((4,), (4,), ((1,),)), ((4,), (4,), ((3,),))])


class Counted(unittest.TestCase):
    def test_great_houses(self):
        with support.good_time():
            self.assertEqual(many_turnings((1000000,)), 400000)
            self.assertEqual(many_turnings((999983,)), 999982)
            self.assertEqual(many_turnings((1, 1, 1, 1, 1, 1000000)), 400000)
            self.assertEqual(many_turnings((2,) * 6), squares(2, 6))
            self.assertEqual(many_turnings((999983,) * 6), squares(999983, 6))
            self.assertEqual(many_turnings((1000000,) * 6), squares(2, 6) * squares(5, 6) * (2 ** 5) ** 36 * (5 ** 5) ** 36)
            self.assertEqual(many_turnings((2, 3, 5, 7, 11, 13)), 2 * 4 * 6 * 10 * 12)

    def test_place_by_place(self):
        for prime in (2, 3, 5, 97):
            for powers in [(1,), (3,), (1, 1), (1, 2), (2, 1), (1, 3), (2, 2, 2), (1, 1, 2), (1, 2, 2), (1, 2, 3), (3, 1, 3, 1), (2, 2, 3, 3, 1, 1)]:
                house = tuple(prime ** often for often in powers)
                self.assertEqual(many_turnings(house), by_places(prime, powers), house)

    def test_alike_houses_have_alike_many(self):
        for house in [(4, 6), (12, 18, 30), (2, 3, 4), (6, 10, 15), (100, 1, 60), (8, 9, 5)]:
            self.assertEqual(many_turnings(house), many_turnings(form_of(house)), house)

    def test_primes_multiply(self):
        for one, other in [((4, 2), (3, 9)), ((8, 8), (5,)), ((2, 2, 4), (27, 3))]:
            self.assertEqual(many_turnings(one + other), many_turnings(one) * many_turnings(other))


class Back(unittest.TestCase):
    def check(self, way):
        before = repr(way)
        self.assertIs(is_turning(way), True)
        back = turned_back(way)
        self.assertEqual(repr(way), before)
        self.assertTrue(support.shows_a_way(way[0], way[0], back), way)
        self.assertIs(is_way(back), True)
        self.assertTrue(support.there_and_back(way, back), way)
        self.assertEqual((then(way, back), then(back, way)), (stay(way[0]), stay(way[0])))
        return back

    def refuse(self, way):
        before = repr(way)
        self.assertIs(is_turning(way), False, way)
        self.assertIsNone(turned_back(way), way)
        self.assertEqual(repr(way), before)

    def test_small_houses_all_ways(self):
        for house in HOUSES:
            told = turnings(house)
            for way in ways(house, house):
                if way in told:
                    self.assertIn(self.check(way), told)
                else:
                    self.refuse(way)

    def test_houses_that_are_not_the_same(self):
        for way in [((4, 6), (6, 4), ((0, 1), (1, 0))), ((4,), (4, 1), ((1, 0),)), ((4, 1), (4,), ((1,), (0,))), ((6,), (2, 3), ((1, 1),)),
                    ((2, 3), (6,), ((3,), (2,))), ((), (1,), ()), ((1,), (), ((),)), ((2,), (4,), ((2,),)), ((4,), (2,), ((1,),))]:
            self.assertIs(is_way(way), True)
            self.refuse(way)
        for house in [support.SIX, (1, 1, 1, 1, 1, 1000000), (720720, 1, 360360), (10 ** 60, 12, 1)]:
            form, there, back = to_form(house)
            self.refuse(there)
            self.refuse(back)

    def test_staying_and_all_to_nought(self):
        for house in HOUSES + support.GREAT:
            self.assertEqual(self.check(stay(house)), stay(house))
            if size(house) > 1:
                self.refuse(none_way(house, house))
            else:
                self.check(none_way(house, house))

    def test_great_houses(self):
        source = support.chance(231)
        with support.good_time():
            for house in support.GREAT + [form_of(support.SIX), (999983,) * 6, (2,) * 6]:
                for _ in range(4):
                    way = support.some_turning(source, house)
                    self.assertEqual(turned_back(self.check(way)), way)

    def test_turnings_that_come_back_late(self):
        # Taken again and again these don't come back within any time that could be waited.
        house = (10 ** 60 + 7,)
        way = (house, house, ((3,),))
        self.assertEqual(self.check(way)[2], ((pow(3, -1, house[0]),),))
        house = (999983,) * 3
        self.check((house, house, ((0, 1, 0), (0, 0, 1), (2, 3, 5))))
        self.check(times_way(7, stay((1000000, 10 ** 36))))

    def test_great_houses_where_not_all_is_reached(self):
        source = support.chance(232)
        with support.good_time():
            for house in support.GREAT:
                self.refuse(times_way(2, support.some_turning(source, house)))
                self.refuse(times_way(5, stay(house)))
                self.refuse(times_way(0, stay(house)))

    def test_told_of_plain_kinds(self):
        self.assertTrue(support.is_plain(turned_back(((4,), (4,), ((3,),)))))


if __name__ == "__main__":
    unittest.main()
