"""Point 23: all parts, and those between two."""

import itertools
import unittest

import support
from commonhouse.allparts import parts, parts_between
from commonhouse.errors import TooGreat
from commonhouse.kinds import kinds
from commonhouse.papers import paper_of
from commonhouse.parts import is_part, part_of
from commonhouse.partsums import lies_within

HOUSES = [(), (1,), (2,), (12,), (48,), (1, 1), (2, 2), (4, 2), (2, 4), (1, 4), (4, 1), (4, 4), (6, 8), (2, 3, 2), (3, 1, 3),
          (2, 2, 2), (4, 3, 4), (2, 2, 4, 3), (2, 2, 2, 2), (1, 2, 1, 2, 1, 2), (1, 1, 1, 1, 1, 48), (48, 1, 1, 1, 1, 1)]
TOO_GREAT = [(49,), (7, 7), (1, 49), (49, 1, 1, 1, 1, 1), (1, 1, 1, 1, 1, 49), (2,) * 6, (10, 5), (1000000,) * 6, (10 ** 60,),
             (1, 1, 1, 1, 1, 1000000)]


class AllParts(unittest.TestCase):
    def check(self, house):
        told = parts(house)
        self.assertIs(type(told), list)
        self.assertTrue(support.is_plain(told))
        self.assertEqual(told, sorted(told))
        self.assertEqual(len(set(told)), len(told))
        self.assertTrue(all(support.shows_a_part(house, part) and is_part(house, part) for part in told), house)
        return told

    def test_each_once(self):
        for house in HOUSES:
            told = self.check(house)
            held = [support.set_of(house, part) for part in told]
            self.assertEqual(len(held), len(set(held)))
            self.assertEqual(set(held), support.part_sets(house), house)

    def test_examples(self):
        self.assertEqual(parts(()), [()])
        self.assertEqual(parts((1,)), [((1,),)])
        self.assertEqual(parts((4,)), [((1,),), ((2,),), ((4,),)])
        self.assertEqual(parts((2, 2)), [((1, 0), (0, 1)), ((1, 0), (0, 2)), ((1, 1), (0, 2)), ((2, 0), (0, 1)), ((2, 0), (0, 2))])

    def test_how_many_in_good_time(self):
        for house, many in [((1, 1, 1, 1, 1, 48), 10), ((48, 1, 1, 1, 1, 1), 10), ((1, 1, 48, 1, 1, 1), 10), ((2,) * 5, 374),
                            ((1, 2, 2, 2, 2, 2), 374), ((2, 2, 2, 2, 2, 1), 374), ((2, 2, 2, 2, 3), 134), ((1, 2, 2, 2, 2, 3), 134),
                            ((1, 1, 1, 1, 1, 47), 2), ((1,) * 6, 1), ((4, 4), 15), ((3, 3, 3), 28), ((5, 5), 8)]:
            with support.good_time(20):
                self.assertEqual(len(self.check(house)), many, house)

    def test_all_houses_of_three_rounds(self):
        with support.good_time():
            for house in itertools.product(range(1, 7), repeat=3):
                if house[0] * house[1] * house[2] <= 48:
                    self.assertEqual(len(self.check(house)), sum(many for _, many in kinds(house)), house)

    def test_too_great(self):
        for house in TOO_GREAT:
            with support.good_time():
                support.refused(self, TooGreat, parts, house)

    def test_a_told_list_is_the_askers_own(self):
        told = parts((4,))
        told.reverse()
        told.append(None)
        self.assertEqual(parts((4,)), [((1,),), ((2,),), ((4,),)])


class Between(unittest.TestCase):
    def test_small_houses_all(self):
        for house in [(), (1,), (12,), (2, 2), (4, 2), (1, 4), (2, 3, 2), (2, 2, 2)]:
            held = {part: support.set_of(house, part) for part in parts(house)}
            for low in held:
                for high in held:
                    if held[low] <= held[high]:
                        told = parts_between(house, low, high)
                        self.assertIs(type(told), list)
                        wanted = [part for part in sorted(held) if held[low] <= held[part] <= held[high]]
                        self.assertEqual(told, wanted, (house, low, high))

    def test_from_nought_to_the_whole_house(self):
        for house in HOUSES:
            low, high = part_of(house, []), part_of(house, support.things_with_one(house))
            self.assertEqual(parts_between(house, low, high), parts(house))
            self.assertEqual(parts_between(house, high, high), [high])
            self.assertEqual(parts_between(house, low, low), [low])

    def test_as_many_as_the_house_cut_by_the_part_has(self):
        for house in [(4, 6), (2, 2, 2, 2), (4, 4, 3), (2, 24)]:
            high = part_of(house, support.things_with_one(house))
            for low in parts(house):
                # Cut by the part the house is given by its rounds as makers and the part's rows as rules.
                form = paper_of((len(house), low))[0]
                told = parts_between(house, low, high)
                self.assertEqual(len(told), len(parts(form)), (house, low))
                self.assertTrue(all(lies_within(house, low, part) for part in told))

    def test_in_good_time(self):
        house = (2,) * 5
        low, high = part_of(house, []), part_of(house, support.things_with_one(house))
        with support.good_time(20):
            self.assertEqual(len(parts_between(house, low, high)), 374)
            self.assertEqual(len(parts_between(house, part_of(house, [(1, 0, 1, 0, 1)]), high)), 67)

    def test_too_great(self):
        for house in TOO_GREAT:
            low, high = part_of(house, []), part_of(house, support.things_with_one(house))
            with support.good_time():
                support.refused(self, TooGreat, parts_between, house, low, high)
                support.refused(self, TooGreat, parts_between, house, low, low)

    def test_what_is_handed_in_stays_and_a_told_list_is_the_askers_own(self):
        low, high = ((4,),), ((1,),)
        told = parts_between((4,), low, high)
        told.clear()
        self.assertEqual(parts_between((4,), low, high), [((1,),), ((2,),), ((4,),)])
        self.assertEqual((low, high), (((4,),), ((1,),)))


if __name__ == "__main__":
    unittest.main()
