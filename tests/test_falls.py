"""Point 25: what falls by a way, what is reached, parts led along and back; what point 3 says of their sizes."""

import unittest

import support
from commonhouse.allways import ways
from commonhouse.falls import falls, part_along, part_back, reached
from commonhouse.forms import to_form
from commonhouse.houses import size
from commonhouse.parts import is_part, numbers_for, part_of, part_size
from commonhouse.partsums import lies_within, met
from commonhouse.ways import none_way, stay

PAIRS = [((), ()), ((), (6,)), ((6,), ()), ((1,), (1,)), ((1, 1), (4,)), ((12,), (18,)), ((2, 4), (4, 2)), ((4, 6), (6, 4)),
         ((6,), (2, 1, 3)), ((2, 2, 2), (2, 4)), ((4, 4), (4,)), ((9, 3), (3, 9)), ((8, 2), (2, 8)), ((1, 4, 1), (2, 1, 2))]


def some_ways():
    """Ways between great houses, from each to each."""
    source = support.chance(211)
    for one in support.GREAT:
        for other in support.GREAT:
            yield support.some_way(source, one, other)


class Falls(unittest.TestCase):
    def test_small_houses_all_ways(self):
        for one, other in PAIRS:
            for way in ways(one, other):
                before = repr(way)
                low, high = falls(way), reached(way)
                self.assertEqual(repr(way), before)
                down = {thing for thing in support.all_things(one) if not any(support.lead(way, thing))}
                there = {support.lead(way, thing) for thing in support.all_things(one)}
                self.assertEqual(low, support.stair_for(one, down), way)
                self.assertEqual(high, support.stair_for(other, there), way)
                for house, part, held in [(one, low, down), (other, high, there)]:
                    self.assertTrue(support.shows_a_part(house, part), way)
                    self.assertIs(is_part(house, part), True)
                    self.assertEqual(support.set_of(house, part), held, way)
                self.assertEqual(part_size(one, low) * part_size(other, high), size(one))

    def test_examples(self):
        self.assertEqual(falls(((4,), (2,), ((1,),))), ((2,),))
        self.assertEqual(reached(((4,), (8,), ((2,),))), ((2,),))
        self.assertEqual(falls(((2, 2), (2,), ((1,), (1,)))), ((1, 1), (0, 2)))
        self.assertEqual(reached(((2,), (2, 2), ((1, 1),))), ((1, 1), (0, 2)))
        self.assertEqual((falls(stay(())), reached(stay(()))), ((), ()))

    def test_all_to_nought_and_staying(self):
        for one in support.GREAT + [(), (1,), (1,) * 6, (4, 6)]:
            for other in support.GREAT + [(), (1,), (1,) * 6, (4, 6)]:
                way = none_way(one, other)
                self.assertEqual(falls(way), support.whole_part(one))
                self.assertEqual(reached(way), support.nought_part(other))
            self.assertEqual(falls(stay(one)), support.nought_part(one))
            self.assertEqual(reached(stay(one)), support.whole_part(one))

    def test_ways_with_one_back(self):
        for house in support.GREAT + [(), (1,), (4, 6), (1, 4, 1, 6)]:
            form, there, back = to_form(house)
            for way in (there, back):
                self.assertEqual(falls(way), support.nought_part(way[0]))
                self.assertEqual(reached(way), support.whole_part(way[1]))

    def test_great_houses(self):
        with support.good_time():
            for way in some_ways():
                one, other, images = way
                low, high = falls(way), reached(way)
                self.assertTrue(support.shows_a_part(one, low))
                self.assertTrue(support.shows_a_part(other, high))
                # All that is told to fall falls; all that is told to be reached is reached, and that is all
                # there is: so the sizes multiply to the house's only where nothing is left out.
                self.assertFalse(any(any(support.lead(way, row)) for row in low))
                self.assertTrue(all(support.reached_by(high, image) for image in images))
                for row in high:
                    thing = tuple(number % limit for number, limit in zip(row, other))
                    self.assertEqual(support.lead(way, numbers_for(other, images, thing)), thing)
                self.assertEqual(part_size(one, low) * part_size(other, high), size(one))

    def test_houses_by_which_much_falls(self):
        house = (1000000,) * 6
        way = (house, house, tuple(support.many_times(house, 1000, thing) for thing in support.things_with_one(house)))
        self.assertEqual(falls(way), reached(way))
        self.assertEqual(part_size(house, falls(way)), 1000 ** 6)
        way = ((10 ** 60,), (10 ** 60,), ((10 ** 20,),))
        self.assertEqual((falls(way), reached(way)), (((10 ** 40,),), ((10 ** 20,),)))


class AlongAndBack(unittest.TestCase):
    def test_small_houses_all_parts(self):
        for one, other in PAIRS:
            ones = {support.stair_for(one, held): held for held in support.part_sets(one)}
            others = {support.stair_for(other, held): held for held in support.part_sets(other)}
            for way in ways(one, other)[::3]:
                goes = {thing: support.lead(way, thing) for thing in support.all_things(one)}
                for part, held in ones.items():
                    self.assertEqual(others[part_along(way, part)], {goes[thing] for thing in held}, (way, part))
                for part, held in others.items():
                    back = {thing for thing in goes if goes[thing] in held}
                    self.assertEqual(ones[part_back(way, part)], back, (way, part))

    def test_examples(self):
        way = ((4, 6), (12,), ((3,), (2,)))
        self.assertEqual(part_along(way, ((2, 0), (0, 6))), ((6,),))
        self.assertEqual(part_along(way, ((4, 0), (0, 2))), ((4,),))
        self.assertEqual(part_back(way, ((6,),)), ((2, 0), (0, 3)))
        self.assertEqual(part_back(way, ((12,),)), falls(way))
        self.assertEqual(part_along(stay((2, 2)), ((1, 1), (0, 2))), ((1, 1), (0, 2)))

    def test_nought_and_the_whole_house(self):
        for way in some_ways():
            one, other, images = way
            self.assertEqual(part_along(way, support.nought_part(one)), support.nought_part(other))
            self.assertEqual(part_along(way, support.whole_part(one)), reached(way))
            self.assertEqual(part_along(way, falls(way)), support.nought_part(other))
            self.assertEqual(part_back(way, support.nought_part(other)), falls(way))
            self.assertEqual(part_back(way, support.whole_part(other)), support.whole_part(one))
            self.assertEqual(part_back(way, reached(way)), support.whole_part(one))

    def test_great_houses(self):
        source = support.chance(212)
        with support.good_time():
            for way in some_ways():
                one, other, images = way
                part = support.some_part(source, one, part_of)
                along = part_along(way, part)
                self.assertTrue(support.shows_a_part(other, along))
                self.assertTrue(all(support.reached_by(along, support.lead(way, row)) for row in part))
                self.assertEqual(part_size(other, along) * part_size(one, met(one, part, falls(way))), part_size(one, part))
                part = support.some_part(source, other, part_of)
                back = part_back(way, part)
                self.assertTrue(support.shows_a_part(one, back))
                self.assertTrue(all(support.reached_by(part, support.lead(way, row)) for row in back))
                self.assertEqual(part_size(one, back), part_size(one, falls(way)) * part_size(other, met(other, part, reached(way))))

    def test_led_along_and_back(self):
        source = support.chance(213)
        for way in some_ways():
            one, other, images = way
            part = support.some_part(source, one, part_of)
            self.assertTrue(lies_within(one, part, part_back(way, part_along(way, part))))
            part = support.some_part(source, other, part_of)
            self.assertEqual(part_along(way, part_back(way, part)), met(other, part, reached(way)))

    def test_what_is_handed_in_stays_as_it_was(self):
        way, part = ((4, 6), (12,), ((3,), (2,))), ((2, 0), (0, 6))
        before = repr((way, part))
        part_along(way, part)
        part_back(way, ((6,),))
        self.assertEqual(repr((way, part)), before)

    def test_told_of_plain_kinds(self):
        way = ((4, 6), (12,), ((3,), (2,)))
        for told in (falls(way), reached(way), part_along(way, ((2, 0), (0, 6))), part_back(way, ((6,),))):
            self.assertTrue(support.is_plain(told))


if __name__ == "__main__":
    unittest.main()
