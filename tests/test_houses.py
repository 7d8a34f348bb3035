"""Point 5: houses, their things and sums; what point 2 says of them."""

import unittest

import support
from commonhouse.errors import NoThing, TooGreat
from commonhouse.houses import is_house, is_thing, minus, nought, plus, size, things, times

HOUSES = [(), (1,), (2,), (5,), (1, 1), (2, 3), (4, 6), (2, 1, 3), (2, 2, 2), (1, 2, 1, 3, 1, 2), (1000000,)]
SMALL = [house for house in HOUSES if house != (1000000,)]
TOLD = (10 ** 60, 7 * 10 ** 80)


class IsHouse(unittest.TestCase):
    def test_houses(self):
        more = [(1000000,) * 6, (1,) * 6, (10 ** 40,), TOLD]
        for house in HOUSES + more:
            self.assertIs(is_house(house), True, house)

    def test_what_is_none(self):
        wrong = [(0,), (-1,), (2, 0), (2, -3), (1,) * 7, (2,) * 7, [2, 3], "23", 23, None, True, False, (True,),
                 (2, True), (None,), ("2",), ((2,),), ([2],), {}, {2: 3}, {2, 3}, range(1, 3), b"ab"]
        for thing in wrong:
            self.assertIs(is_house(thing), False, thing)

    def test_whatever_thing(self):
        for thing in support.ODD_THINGS:
            self.assertIs(is_house(thing), False, thing)


class IsThing(unittest.TestCase):
    def test_all_things_of_small_houses(self):
        for house in SMALL:
            for thing in support.all_things(house):
                self.assertIs(is_thing(house, thing), True, (house, thing))

    def test_numbers_at_the_round_and_below_nought(self):
        self.assertIs(is_thing((4, 6), (3, 5)), True)
        for thing in [(4, 0), (0, 6), (-1, 0), (0, -1), (4, 6), (10 ** 40, 0)]:
            self.assertIs(is_thing((4, 6), thing), False, thing)

    def test_one_number_more_or_fewer(self):
        for thing in [(), (0,), (0, 0, 0)]:
            self.assertIs(is_thing((4, 6), thing), False, thing)
        self.assertIs(is_thing((), (0,)), False)
        self.assertIs(is_thing((), ()), True)

    def test_whatever_thing(self):
        for house in HOUSES:
            for thing in support.ODD_THINGS + [[0] * len(house)]:
                self.assertIs(is_thing(house, thing), False, (house, thing))

    def test_told_houses_of_any_size(self):
        self.assertIs(is_thing(TOLD, (10 ** 60 - 1, 7 * 10 ** 80 - 1)), True)
        self.assertIs(is_thing(TOLD, (10 ** 60, 0)), False)


class Sums(unittest.TestCase):
    def test_sums_and_differences_place_by_place(self):
        for house in SMALL:
            everything = support.all_things(house)
            self.assertEqual(nought(house), (0,) * len(house))
            for a in everything:
                for b in everything:
                    told = plus(house, a, b)
                    self.assertEqual(told, tuple((x + y) % r for x, y, r in zip(a, b, house)))
                    self.assertEqual(minus(house, told, b), a)
                    self.assertEqual(minus(house, a, b), tuple((x - y) % r for x, y, r in zip(a, b, house)))

    def test_so_many_times(self):
        for house in SMALL:
            for a in support.all_things(house):
                for many in [0, 1, 2, 7, -1, -2, -13, 10 ** 30 - 1, 1 - 10 ** 30]:
                    told = times(house, many, a)
                    self.assertEqual(told, tuple(many * x % r for x, r in zip(a, house)))
                    self.assertIn(told, support.all_things(house))

    def test_examples(self):
        self.assertEqual(plus((4, 6), (3, 5), (1, 2)), (0, 1))
        self.assertEqual(minus((4, 6), (0, 1), (3, 5)), (1, 2))
        self.assertEqual(times((4, 6), -1, (1, 0)), (3, 0))
        self.assertEqual(times((1000000,), 999999, (999999,)), (1,))
        self.assertEqual(plus((), (), ()), ())
        self.assertEqual(times((), 5, ()), ())

    def test_told_houses_of_any_size(self):
        a = (10 ** 60 - 1, 5)
        self.assertEqual(plus(TOLD, a, a), (10 ** 60 - 2, 10))
        self.assertEqual(minus(TOLD, nought(TOLD), a), (1, 7 * 10 ** 80 - 5))
        self.assertEqual(times(TOLD, -3, a), (3, 7 * 10 ** 80 - 15))

    def test_what_is_told_is_plain(self):
        for told in [nought((4, 6)), plus((4, 6), (1, 1), (3, 5)), times((4, 6), 3, (1, 1)), size((4, 6)), things((2, 2))]:
            self.assertTrue(support.is_plain(told), told)


class NoThings(unittest.TestCase):
    def test_whatever_is_no_thing_is_refused(self):
        house = (4, 6)
        wrong = support.ODD_THINGS + [(), (0,), (0, 0, 0), (4, 0), (0, 6), (-1, 0), (0, -1), [0, 0]]
        for thing in wrong:
            for asked in (plus, minus):
                with self.assertRaises(NoThing, msg=repr(thing)):
                    asked(house, thing, (0, 0))
                with self.assertRaises(NoThing, msg=repr(thing)):
                    asked(house, (0, 0), thing)
            for many in (0, 1, -1):
                with self.assertRaises(NoThing, msg=repr(thing)):
                    times(house, many, thing)

    def test_things_of_another_house(self):
        with self.assertRaises(NoThing):
            plus((), (), (0,))
        with self.assertRaises(NoThing):
            times((1,), 3, (1,))
        with self.assertRaises(NoThing):
            minus(TOLD, (10 ** 60, 0), (0, 0))


class AllThings(unittest.TestCase):
    def test_size(self):
        self.assertEqual(size(()), 1)
        self.assertEqual(size((4, 6)), 24)
        self.assertEqual(size((1,) * 6), 1)
        self.assertEqual(size((1000000,) * 6), 10 ** 36)
        self.assertEqual(size(TOLD), 7 * 10 ** 140)

    def test_rising_and_all(self):
        for house in SMALL + [(20, 20), (400,), (1, 1, 1, 1, 1, 400), (2, 2, 4, 5, 5, 1)]:
            told = things(house)
            self.assertIs(type(told), list)
            self.assertEqual(told, sorted(support.all_things(house)))
            self.assertEqual(len(told), size(house))

    def test_too_great_from_401_on(self):
        self.assertEqual(len(things((400,))), 400)
        for house in [(401,), (1, 401), (21, 20), (1000000,), (1000000,) * 6, (1, 1, 1, 1, 1, 1000000), TOLD]:
            with support.good_time():
                with self.assertRaises(TooGreat, msg=str(house)):
                    things(house)

    def test_a_told_list_is_the_askers_own(self):
        told = things((2, 2))
        told.reverse()
        told.append(None)
        self.assertEqual(things((2, 2)), [(0, 0), (0, 1), (1, 0), (1, 1)])
        things(()).clear()
        self.assertEqual(things(()), [()])

    def test_what_is_handed_in_stays_as_it_was(self):
        handed = [1, [2, 3]]
        self.assertIs(is_house(handed), False)
        self.assertIs(is_thing((4, 6), handed), False)
        with self.assertRaises(NoThing):
            plus((4, 6), (0, 0), handed)
        self.assertEqual(handed, [1, [2, 3]])


if __name__ == "__main__":
    unittest.main()
