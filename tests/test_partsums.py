"""Point 22: parts joined and met, and one within another; what point 3 says of their sizes."""

import unittest

import support
from commonhouse.allparts import parts
from commonhouse.houses import size
from commonhouse.parts import has, is_part, part_of, part_size
from commonhouse.partsums import joined, lies_within, met

HOUSES = [(), (1,), (12,), (1, 1), (2, 2), (4, 2), (2, 4), (1, 4), (4, 1), (2, 3, 2), (3, 1, 3), (2, 2, 2)]
GREAT = [(1000000, 720720, 999983, 524288, 531441, 999999), (1000000,) * 6, (1, 1, 1, 1, 1, 1000000), (720720, 1, 360360),
         (12 * 10 ** 40, 10 ** 60, 6 * 10 ** 50)]


class PartSums(unittest.TestCase):
    def check(self, house, first, second):
        more, less = joined(house, first, second), met(house, first, second)
        for part in (more, less):
            self.assertTrue(support.shows_a_part(house, part), (house, first, second))
            self.assertIs(is_part(house, part), True)
        sizes = [part_size(house, part) for part in (more, less, first, second)]
        self.assertEqual(sizes[0] * sizes[1], sizes[2] * sizes[3], (house, first, second))
        for part in (first, second):
            self.assertIs(lies_within(house, part, more), True)
            self.assertIs(lies_within(house, less, part), True)
        return more, less

    def test_small_houses_all(self):
        for house in HOUSES:
            held = {part: support.set_of(house, part) for part in parts(house)}
            for first, one in held.items():
                for second, other in held.items():
                    more, less = self.check(house, first, second)
                    self.assertEqual(held[less], one & other, (house, first, second))
                    self.assertEqual(held[more], support.made_by(house, sorted(one | other)), (house, first, second))
                    self.assertIs(lies_within(house, first, second), one <= other, (house, first, second))

    def test_examples(self):
        self.assertEqual(joined((12,), ((4,),), ((6,),)), ((2,),))
        self.assertEqual(met((12,), ((4,),), ((6,),)), ((12,),))
        self.assertEqual(joined((2, 2), ((1, 1), (0, 2)), ((1, 0), (0, 2))), ((1, 0), (0, 1)))
        self.assertEqual(met((2, 2), ((1, 1), (0, 2)), ((1, 0), (0, 2))), ((2, 0), (0, 2)))
        self.assertEqual((joined((), (), ()), met((), (), ()), lies_within((), (), ())), ((), (), True))

    def test_with_nought_and_the_whole_house(self):
        for house in HOUSES + GREAT:
            low, high = part_of(house, []), part_of(house, support.things_with_one(house))
            part = part_of(house, [support.many_times(house, 2, thing) for thing in support.things_with_one(house)])
            self.assertEqual(self.check(house, part, low), (part, low))
            self.assertEqual(self.check(house, high, part), (high, part))
            self.assertEqual(self.check(house, part, part), (part, part))
            self.assertIs(lies_within(house, high, low), size(house) == 1)

    def test_great_houses(self):
        source = support.chance(151)

        def some(house):
            return [support.many_times(house, source.choice((1, 2, 3, 60, 1001)), support.some_thing(source, house))
                    for _ in range(source.randint(1, 2))]

        with support.good_time():
            for house in GREAT:
                for _ in range(12):
                    ones, others, shared = some(house), some(house), some(house)
                    first, second = part_of(house, ones + shared), part_of(house, others + shared)
                    more, less = self.check(house, first, second)
                    self.assertEqual(more, part_of(house, ones + others + shared))
                    self.assertEqual(more, joined(house, second, first))
                    self.assertEqual(less, met(house, second, first))
                    self.assertTrue(all(has(house, less, thing) for thing in shared))
                    self.assertTrue(all(has(house, more, thing) for thing in ones + others + shared))
                    self.assertIs(lies_within(house, first, second), joined(house, first, second) == second)

    def test_what_is_handed_in_stays_as_it_was(self):
        first, second = ((1, 1), (0, 2)), ((1, 0), (0, 2))
        before = repr((first, second))
        joined((2, 2), first, second)
        met((2, 2), first, second)
        lies_within((2, 2), first, second)
        self.assertEqual(repr((first, second)), before)


if __name__ == "__main__":
    unittest.main()
