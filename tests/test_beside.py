"""Point 30: a part that stands beside a part, or a thing that shows that none does."""

import unittest

import support
from commonhouse.beside import beside
from commonhouse.houses import is_thing, size
from commonhouse.parts import is_part, part_of, part_size
from commonhouse.partsums import joined, met

HOUSES = [(), (1,), (2,), (4,), (8,), (12,), (36,), (1, 1), (2, 2), (4, 2), (2, 4), (2, 8), (4, 6), (1, 4), (4, 4), (2, 3, 2), (3, 1, 3),
          (9, 3), (2, 2, 2), (2, 2, 4), (6, 6), (1, 1, 1, 1, 1, 12), (2, 1, 2, 1, 2, 1)]


def times_part(house, n, part):
    """The part of all things that are n times a thing of the part."""
    return part_of(house, [tuple(n * number % limit for number, limit in zip(row, house)) for row in part])


class Beside(unittest.TestCase):
    def check(self, house, part):
        """The word told, behind which it is looked whether it shows what it must."""
        before = repr(part)
        told = beside(house, part)
        self.assertEqual(repr(part), before)
        self.assertIs(type(told), tuple)
        self.assertTrue(support.is_plain(told))
        if told[0] == "yes":
            self.assertEqual(len(told), 2)
            self.assertTrue(support.shows_a_part(house, told[1]), (house, part))
            self.assertIs(is_part(house, told[1]), True)
            self.assertEqual(met(house, part, told[1]), support.nought_part(house), (house, part))
            self.assertEqual(joined(house, part, told[1]), support.whole_part(house), (house, part))
            self.assertEqual(part_size(house, part) * part_size(house, told[1]), size(house))
        else:
            word, n, thing, half = told
            self.assertEqual((word, type(n)), ("no", int))
            self.assertTrue(is_thing(house, thing) and is_thing(house, half), (house, part))
            self.assertTrue(support.reached_by(part, thing), (house, part))
            self.assertEqual(support.many_times(house, n, half), thing)
            self.assertFalse(support.reached_by(times_part(house, n, part), thing), (house, part))
        return told

    def test_small_houses_all_parts(self):
        for house in HOUSES:
            everything = support.part_sets(house)
            many = len(support.all_things(house))
            for held in everything:
                # Where two meet in nought alone, they are joined as many as their sizes multiply to.
                stands = any(len(held) * len(other) == many and len(held & other) == 1 for other in everything)
                told = self.check(house, support.stair_for(house, held))
                self.assertEqual(told[0], "yes" if stands else "no", (house, held))
                if told[0] == "no":
                    self.assertNotIn(told[2], {support.many_times(house, told[1], thing) for thing in held})

    def test_examples(self):
        self.assertEqual(beside((6,), ((2,),)), ("yes", ((3,),)))
        self.assertEqual(beside((6,), ((3,),)), ("yes", ((2,),)))
        self.assertEqual(beside((), ()), ("yes", ()))
        word, n, thing, half = beside((4,), ((2,),))
        self.assertEqual((word, thing), ("no", (2,)))

    def test_nought_and_the_whole_house(self):
        for house in HOUSES + support.GREAT:
            nought, whole = support.nought_part(house), support.whole_part(house)
            self.assertEqual(self.check(house, nought), ("yes", whole))
            self.assertEqual(self.check(house, whole), ("yes", nought))

    def test_great_houses_where_one_stands_beside(self):
        source = support.chance(271)
        with support.good_time():
            for house in support.GREAT + [(2,) * 6, (4,) * 6, (4, 4, 8, 8, 16, 16)]:
                for many in range(len(house) + 1):
                    # A turning leads the things with one 1 to things that make the house as these do.
                    images = support.some_turning(source, house)[2]
                    self.assertEqual(self.check(house, part_of(house, images[:many]))[0], "yes", house)

    def test_great_houses_where_none_does(self):
        source = support.chance(272)
        with support.good_time():
            for house in [(1000000,) * 6, (1, 1, 1, 1, 1, 1000000), (720720, 1, 360360), (12 * 10 ** 40, 10 ** 60, 6 * 10 ** 50)]:
                images = support.some_turning(source, house)[2]
                for at, limit in enumerate(house):
                    if limit > 1:
                        part = part_of(house, [support.many_times(house, 2, images[at])])
                        self.assertEqual(self.check(house, part)[0], "no", house)

    def test_great_houses_whatever_part(self):
        source = support.chance(273)
        words = []
        with support.good_time():
            for house in support.GREAT:
                for many in (1, 2, 4, 8):
                    words.append(self.check(house, support.some_part(source, house, part_of, many))[0])
        self.assertIn("no", words)
        self.assertIn("yes", words)


if __name__ == "__main__":
    unittest.main()
