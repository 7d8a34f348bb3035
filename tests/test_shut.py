"""Point 29: shut parts."""

import unittest

import support
from commonhouse.houses import size
from commonhouse.partsums import joined, lies_within, met
from commonhouse.parts import is_part, part_of, part_size
from commonhouse.shut import shut
from commonhouse.voices import says

HOUSES = [(), (1,), (2,), (12,), (1, 1), (2, 2), (4, 2), (2, 4), (4, 6), (1, 4), (2, 3, 2), (3, 1, 3), (2, 2, 2), (1, 1, 1, 1, 1, 12), (9, 3)]


def left(house, row):
    return tuple(number % limit for number, limit in zip(row, house))


class Shut(unittest.TestCase):
    def check(self, house, part):
        before = repr(part)
        told = shut(house, part)
        self.assertEqual(repr(part), before)
        self.assertTrue(support.shows_a_part(house, told), (house, part))
        self.assertIs(is_part(house, told), True)
        self.assertEqual(shut(house, told), part, (house, part))
        self.assertEqual(part_size(house, told) * part_size(house, part), size(house))
        for voice in told:
            for row in part:
                self.assertEqual(says(house, left(house, voice), left(house, row)), 0)
        return told

    def test_small_houses_all_parts(self):
        for house in HOUSES:
            for held in support.part_sets(house):
                told = self.check(house, support.stair_for(house, held))
                voices = {c for c in support.all_things(house) if all(says(house, c, a) == 0 for a in held)}
                self.assertEqual(support.set_of(house, told), voices, (house, held))

    def test_examples(self):
        self.assertEqual(shut((12,), ((4,),)), ((3,),))
        self.assertEqual(shut((2, 2), ((1, 1), (0, 2))), ((1, 1), (0, 2)))
        self.assertEqual(shut((2, 2), ((1, 0), (0, 2))), ((2, 0), (0, 1)))
        self.assertEqual(shut((), ()), ())

    def test_nought_and_the_whole_house(self):
        for house in HOUSES + support.GREAT:
            self.assertEqual(self.check(house, support.nought_part(house)), support.whole_part(house))
            self.assertEqual(self.check(house, support.whole_part(house)), support.nought_part(house))

    def test_great_houses(self):
        source = support.chance(251)
        with support.good_time():
            for house in support.GREAT:
                for many in (1, 2, 4, 8):
                    first, second = (support.some_part(source, house, part_of, many) for _ in range(2))
                    one, other = self.check(house, first), self.check(house, second)
                    self.assertEqual(shut(house, joined(house, first, second)), met(house, one, other))
                    self.assertEqual(shut(house, met(house, first, second)), joined(house, one, other))
                    self.assertTrue(lies_within(house, shut(house, joined(house, first, second)), one))

    def test_told_of_plain_kinds(self):
        self.assertTrue(support.is_plain(shut((12,), ((4,),))))


if __name__ == "__main__":
    unittest.main()
