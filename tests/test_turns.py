"""Point 6: turns."""

import unittest

import support
from commonhouse.errors import NoThing
from commonhouse.houses import size, times
from commonhouse.turns import last_turn, nought_at, of_turn, turn

SMALL = [(), (1,), (2,), (12,), (1, 1), (2, 3), (4, 6), (2, 2, 2), (4, 2, 8), (1, 2, 1, 3, 1, 2), (9, 3, 5)]
GREAT = (1000000, 720720, 999983, 524288, 531441, 999999)


def turn_by_trying(house, thing):
    return next(n for n in range(1, 10 ** 6) if not any(n * x % r for x, r in zip(thing, house)))


class Turns(unittest.TestCase):
    def test_as_tried(self):
        for house in SMALL:
            turns = [turn_by_trying(house, thing) for thing in support.all_things(house)]
            self.assertEqual([turn(house, thing) for thing in support.all_things(house)], turns)
            self.assertEqual(last_turn(house), turn_by_trying(house, (1,) * len(house)))
            for n in range(1, 80):
                self.assertEqual(of_turn(house, n), turns.count(n), (house, n))
                self.assertEqual(nought_at(house, n), sum(n % t == 0 for t in turns), (house, n))

    def test_of_nought_and_of_no_rounds(self):
        self.assertEqual(turn((), ()), 1)
        self.assertEqual(turn((4, 6), (0, 0)), 1)
        self.assertEqual(last_turn(()), 1)
        self.assertEqual(last_turn((1,) * 6), 1)
        self.assertEqual((nought_at((), 5), of_turn((), 5), of_turn((), 1)), (1, 0, 1))

    def test_last_turn_is_no_less_than_due(self):
        for house in SMALL:
            last = last_turn(house)
            self.assertTrue(all(last % turn(house, thing) == 0 for thing in support.all_things(house)))
            self.assertEqual(max(turn(house, thing) for thing in support.all_things(house)), last)


class GreatHouses(unittest.TestCase):
    def test_turn(self):
        thing = (1, 1, 1, 1, 1, 1)
        self.assertEqual(turn(GREAT, thing), last_turn(GREAT))
        self.assertEqual(turn(GREAT, (500000, 360360, 0, 262144, 0, 0)), 2)
        self.assertEqual(turn((1000000,), (999999,)), 1000000)
        one = (123456, 7, 999982, 4096, 27, 37)
        found = turn(GREAT, one)
        self.assertEqual(times(GREAT, found, one), (0,) * 6)
        for prime in (2, 3, 5, 7, 11, 13, 37, 999983):
            if found % prime == 0:
                self.assertNotEqual(times(GREAT, found // prime, one), (0,) * 6)

    def test_nought_at(self):
        self.assertEqual(nought_at((1000000,) * 6, 1), 1)
        self.assertEqual(nought_at((1000000,) * 6, 10 ** 30), 10 ** 36)
        self.assertEqual(nought_at((1000000,) * 6, 30), 10 ** 6)
        self.assertEqual(nought_at(GREAT, last_turn(GREAT)), size(GREAT))
        self.assertEqual(nought_at((12, 18, 8), 12), 12 * 6 * 4)

    def test_of_turn(self):
        with support.good_time():
            self.assertEqual(of_turn((1000000,), 1000000), 400000)
            self.assertEqual(of_turn((1000000,) * 2, 1000000), (2 ** 12 - 2 ** 10) * (5 ** 12 - 5 ** 10))
            self.assertEqual(of_turn((999983,) * 6, 999983), 999983 ** 6 - 1)
            self.assertEqual(of_turn((1000000,), 3), 0)
            self.assertEqual(of_turn((1000000,), 999999), 0)
            divisors = [n for n in range(1, 5041) if 5040 % n == 0]
            self.assertEqual(sum(of_turn((5040, 5040, 720), n) for n in divisors), 5040 * 5040 * 720)

    def test_told_houses_of_any_size(self):
        told = (10 ** 60, 6 * 10 ** 80)
        with support.good_time():
            self.assertEqual(last_turn(told), 6 * 10 ** 80)
            self.assertEqual(turn(told, (10 ** 59, 10 ** 80)), 30)
            self.assertEqual(nought_at(told, 30), 10 * 30)
            self.assertEqual(of_turn(told, 6), 3 * 2)
            self.assertEqual(of_turn(told, 1000000), (2 ** 12 - 2 ** 10) * (5 ** 12 - 5 ** 10))

    def test_what_is_told_is_plain(self):
        for told in [turn((4, 6), (1, 2)), last_turn((4, 6)), nought_at((4, 6), 2), of_turn((4, 6), 2)]:
            self.assertIs(type(told), int)


class NoThings(unittest.TestCase):
    def test_whatever_is_no_thing_is_refused(self):
        for thing in support.ODD_THINGS + [(), (0,), (0, 0, 0), (4, 0), (0, 6), (-1, 0), (0, -1), [0, 0]]:
            with self.assertRaises(NoThing, msg=repr(thing)):
                turn((4, 6), thing)
        with self.assertRaises(NoThing):
            turn((), (0,))


if __name__ == "__main__":
    unittest.main()
