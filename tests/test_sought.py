"""Point 30: what a way leads to a thing, or a voice that shows that nothing is."""

import unittest

import support
from commonhouse.allways import ways
from commonhouse.errors import NoThing
from commonhouse.forms import to_form
from commonhouse.houses import is_thing
from commonhouse.sought import sought
from commonhouse.voices import says
from commonhouse.ways import none_way, stay

PAIRS = [((), ()), ((), (6,)), ((6,), ()), ((1,), (1,)), ((1, 1), (4,)), ((12,), (18,)), ((2, 4), (4, 2)), ((4, 6), (6, 4)),
         ((6,), (2, 1, 3)), ((2, 2), (2, 4)), ((4, 4), (4,)), ((9, 3), (3, 9)), ((8,), (2, 8))]


class Sought(unittest.TestCase):
    def check(self, way, a):
        """The word told, behind which it is looked whether it shows what it must."""
        before = repr((way, a))
        told = sought(way, a)
        self.assertEqual(repr((way, a)), before)
        self.assertIs(type(told), tuple)
        self.assertTrue(support.is_plain(told))
        word, shown = told
        one, other, images = way
        if word == "yes":
            self.assertIs(is_thing(one, shown), True, (way, a))
            self.assertEqual(support.lead(way, shown), a)
        else:
            self.assertEqual(word, "no")
            self.assertIs(is_thing(other, shown), True, (way, a))
            # What is reached is made by the images, and sums are said sums.
            self.assertEqual([says(other, shown, image) for image in images], [0 for _ in images], (way, a))
            self.assertNotEqual(says(other, shown, a), 0, (way, a))
        return word

    def test_small_houses_all(self):
        for one, other in PAIRS:
            for way in ways(one, other):
                there = {support.lead(way, thing) for thing in support.all_things(one)}
                for a in support.all_things(other):
                    self.assertEqual(self.check(way, a), "yes" if a in there else "no", (way, a))

    def test_all_to_nought_and_staying(self):
        source = support.chance(261)
        for house in support.GREAT + [(), (1,), (4, 6)]:
            way = none_way((4, 6), house)
            self.assertEqual(self.check(way, (0,) * len(house)), "yes")
            for thing in support.things_with_one(house):
                self.assertEqual(self.check(way, thing), "no" if any(thing) else "yes")
            thing = support.some_thing(source, house)
            self.assertEqual(sought(stay(house), thing), ("yes", thing))

    def test_ways_with_one_back(self):
        source = support.chance(262)
        for house in support.GREAT + [(4, 6), (1, 4, 1, 6)]:
            form, there, back = to_form(house)
            thing = support.some_thing(source, form)
            self.assertEqual(sought(there, thing), ("yes", support.lead(back, thing)))

    def test_great_houses(self):
        source = support.chance(263)
        words = []
        with support.good_time():
            for one in support.GREAT:
                for other in support.GREAT:
                    way = support.some_way(source, one, other)
                    self.assertEqual(self.check(way, support.lead(way, support.some_thing(source, one))), "yes")
                    words.extend(self.check(way, thing) for thing in support.things_with_one(other))
                    words.append(self.check(way, support.some_thing(source, other)))
        self.assertGreater(words.count("no"), 20)
        self.assertGreater(words.count("yes"), 5)

    def test_great_houses_where_little_is_left_out(self):
        for house in support.GREAT:
            double = (house, house, tuple(support.many_times(house, 2, thing) for thing in support.things_with_one(house)))
            for thing in support.things_with_one(house):
                at = [number > 0 and limit % 2 == 0 for number, limit in zip(thing, house)]
                self.assertEqual(self.check(double, thing), "no" if any(at) else "yes", (house, thing))

    def test_what_is_no_thing(self):
        for thing in support.NO_THINGS:
            for way in [stay((4, 6)), none_way((4, 6), (4, 6)), none_way((), (4, 6)), ((4,), (4, 6), ((1, 0),))]:
                support.refused(self, NoThing, sought, way, thing)
        for thing in [None, (0,), [], 0, ((),)]:
            support.refused(self, NoThing, sought, none_way((4,), ()), thing)
        for thing in [(10 ** 60,), (-1,), (True,), [0], ()]:
            support.refused(self, NoThing, sought, stay((10 ** 60,)), thing)


if __name__ == "__main__":
    unittest.main()
