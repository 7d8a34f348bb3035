"""Point 24: how many parts of each kind a house has."""

import collections
import unittest

import support
from commonhouse.allparts import parts
from commonhouse.errors import TooGreat
from commonhouse.forms import form_of
from commonhouse.houses import size
from commonhouse.kinds import how_many, kinds
from commonhouse.parts import part_way
from commonhouse.turns import of_turn

HOUSES = [(), (1,), (2,), (12,), (48,), (1, 1), (2, 2), (4, 2), (2, 4), (1, 4), (4, 4), (6, 8), (2, 3, 2), (3, 1, 3), (9, 3),
          (2, 2, 2), (4, 3, 4), (2, 2, 4, 3), (2, 2, 2, 2), (2,) * 5, (1, 1, 1, 1, 1, 48), (8, 4), (2, 8, 2), (6, 6), (5, 5)]
SIX = (1000000, 720720, 999983, 524288, 531441, 999999)


def turns_in(house, some):
    """The turns of some things, which show the kind of the part that they are."""
    return tuple(sorted(support.turn_of(house, thing) for thing in some))


def fewer(n):
    """How many numbers from 1 to n have no prime in common with n."""
    found, rest, prime = n, n, 2
    while rest > 1:
        if rest % prime == 0:
            found -= found // prime
            while rest % prime == 0:
                rest //= prime
        prime += 1
    return found


class Kinds(unittest.TestCase):
    def test_by_the_parts_as_sets(self):
        for house in HOUSES:
            counted = collections.Counter(turns_in(house, held) for held in support.part_sets(house))
            told = kinds(house)
            self.assertIs(type(told), list)
            self.assertTrue(support.is_plain(told))
            self.assertEqual(told, sorted(told))
            self.assertEqual({turns_in(kind, support.all_things(kind)): many for kind, many in told}, counted, house)
            self.assertEqual(len(told), len(counted))

    def test_by_the_parts_told(self):
        for house in HOUSES:
            counted = collections.Counter(part_way(house, part)[0] for part in parts(house))
            self.assertEqual(kinds(house), sorted(counted.items()), house)
            for kind, many in counted.items():
                self.assertEqual(how_many(house, kind), many, (house, kind))

    def test_examples(self):
        self.assertEqual(kinds(()), [((), 1)])
        self.assertEqual(kinds((1,) * 6), [((), 1)])
        self.assertEqual(kinds((4, 4)), [((), 1), ((2,), 3), ((2, 2), 1), ((2, 4), 3), ((4,), 6), ((4, 4), 1)])
        self.assertEqual(kinds((6,)), [((), 1), ((2,), 1), ((3,), 1), ((6,), 1)])
        self.assertEqual([many for _, many in kinds((2,) * 6)], [1, 63, 651, 1395, 651, 63, 1])

    def test_houses_of_4096_things_and_more(self):
        with support.good_time():
            for house in [(4096,), (4,) * 6, (64, 64), (2, 2, 2, 2, 2, 128), (1, 1, 1, 1, 1, 4096), (8, 8, 8, 8), (60, 68),
                          (2, 4, 8, 16), (36, 36, 3), (30, 30, 4), (4093,), (2, 2, 4, 4, 8, 8), (2, 2, 2, 4, 8, 16)]:
                told = kinds(house)
                self.assertEqual(told, sorted(told))
                self.assertEqual(len({kind for kind, _ in told}), len(told))
                for kind, many in told:
                    self.assertEqual(form_of(kind), kind)
                    self.assertEqual(size(house) % size(kind), 0)
                    self.assertGreater(many, 0)
                    self.assertEqual(how_many(house, kind), many)
                self.assertEqual((told[0], dict(told)[form_of(house)]), (((), 1), 1))
            for house in [(4097,), (17, 241), (4, 4, 4, 4, 4, 5), (1, 1, 1, 1, 1, 4097), (2, 2049), (1000000,) * 6, (10 ** 60,)]:
                support.refused(self, TooGreat, kinds, house)

    def test_a_told_list_is_the_askers_own(self):
        told = kinds((4,))
        told.reverse()
        told.append(None)
        self.assertEqual(kinds((4,)), [((), 1), ((2,), 1), ((4,), 1)])


class HowMany(unittest.TestCase):
    def test_kinds_that_a_house_has_none_of(self):
        for house, kind in [((), (2,)), ((1,), (2,)), ((4,), (2, 2)), ((4,), (8,)), ((2, 2), (4,)), ((4, 2), (4, 4)), ((6,), (5,)),
                            ((6,), (10,)), ((6,), (30,)), ((2, 3), (6, 6)), ((8, 2), (4, 4)), ((2,) * 5, (2,) * 6),
                            ((1000000,) * 6, (3,)), ((1000000,) * 6, (2, 6)), ((1000000,) * 6, (128,)), ((9, 9, 3), (3, 9, 27))]:
            self.assertEqual(how_many(house, kind), 0, (house, kind))

    def test_kinds_with_rounds_of_any_size(self):
        prime = 2 ** 521 - 1
        with support.good_time():
            for house in [SIX, (1000000,) * 6, (), (1,), (6,)]:
                for kind in [(prime,), (2, 2 * prime), (prime, prime * prime), (10 ** 3000,), (2 ** 100000,), (6 ** 40, 6 ** 50000),
                             ((10 ** 30 + 57) * (10 ** 40 + 121),), (2,) * 5 + (2 * prime,)]:
                    self.assertEqual(how_many(house, kind), 0)

    def test_nought_and_the_whole_house(self):
        for house in HOUSES + [SIX, (1000000,) * 6, (1, 1, 1, 1, 1, 1000000), (999983,) * 6]:
            self.assertEqual(how_many(house, ()), 1)
            self.assertEqual(how_many(house, form_of(house)), 1)

    def test_parts_of_one_round_by_the_things_of_its_turn(self):
        for house in [SIX, (1000000,) * 6, (720720, 720720), (1, 1, 1, 1, 1, 1000000), (12, 18, 30)]:
            for n in [2, 3, 4, 5, 6, 7, 8, 12, 13, 36, 64, 100, 1001, 5040, 15625, 1000000]:
                self.assertEqual(how_many(house, (n,)), of_turn(house, n) // fewer(n), (house, n))

    def test_examples_of_great_houses(self):
        self.assertEqual(how_many((1000000,) * 6, (2,)), 63)
        self.assertEqual(how_many((1000000,) * 6, (5, 5)), 508431)
        self.assertEqual(how_many((1000000,) * 6, (10, 10)), 651 * 508431)
        self.assertEqual(how_many((999983,) * 2, (999983,)), 999984)

    def test_as_many_with_the_kind_as_cut_to_it(self):
        # The house being fixed, the counts of all kinds of one size sum to those of the size turned about.
        for house in [(4, 4, 2), (8, 4, 2), (9, 3, 3), (12, 12), (16, 4, 4)]:
            counted = collections.Counter()
            for kind, many in kinds(house):
                counted[size(kind)] += many
            for many in list(counted):
                self.assertEqual(counted[many], counted[size(house) // many], (house, many))

    def test_what_is_handed_in_stays_as_it_was(self):
        house, kind = (4, 6), (2, 6)
        how_many(house, kind)
        kinds(house)
        self.assertEqual((house, kind), ((4, 6), (2, 6)))


if __name__ == "__main__":
    unittest.main()
