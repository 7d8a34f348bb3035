"""Point 26: houses cut by parts, ways folded; what point 3 says of both."""

import unittest

import support
from commonhouse.allparts import parts, parts_between
from commonhouse.allways import ways
from commonhouse.cuts import cut, folded
from commonhouse.falls import falls, part_back, reached
from commonhouse.forms import form_of
from commonhouse.houses import size
from commonhouse.parts import part_of, part_size, part_way
from commonhouse.waydeeds import then
from commonhouse.ways import is_way, none_way, stay

HOUSES = [(), (1,), (12,), (1, 1), (2, 2), (4, 2), (2, 4), (4, 6), (1, 4), (2, 3, 2), (3, 1, 3), (2, 2, 2), (1, 1, 1, 1, 1, 12)]
PAIRS = [((), ()), ((), (6,)), ((6,), ()), ((1,), (1,)), ((12,), (18,)), ((2, 4), (4, 2)), ((4, 6), (6, 4)), ((6,), (2, 1, 3)),
         ((2, 2, 2), (2, 4)), ((4, 4), (4,)), ((9, 3), (3, 9))]


class Cut(unittest.TestCase):
    def check(self, house, part):
        before = repr(part)
        way = cut(house, part)
        self.assertEqual(repr(part), before)
        form = way[1]
        self.assertTrue(support.shows_a_way(house, form, way), (house, part))
        self.assertIs(is_way(way), True)
        self.assertEqual(form_of(form), form)
        self.assertEqual(size(form) * part_size(house, part), size(house))
        # What is led to nought is the part's size at least, so by the sizes all is reached and nothing else falls.
        self.assertFalse(any(any(support.lead(way, row)) for row in part), (house, part))
        self.assertEqual(falls(way), part)
        self.assertEqual(reached(way), support.whole_part(form))
        return way

    def test_small_houses_all_parts(self):
        for house in HOUSES:
            for held in support.part_sets(house):
                way = self.check(house, support.stair_for(house, held))
                goes = {thing: support.lead(way, thing) for thing in support.all_things(house)}
                self.assertEqual({thing for thing in goes if not any(goes[thing])}, held)
                self.assertEqual(sorted(set(goes.values())), support.all_things(way[1]))

    def test_examples(self):
        self.assertEqual(cut((4,), ((2,),)), ((4,), (2,), ((1,),)))
        self.assertEqual(cut((2, 2), ((1, 1), (0, 2))), ((2, 2), (2,), ((1,), (1,))))
        self.assertEqual(cut((), ()), ((), (), ()))

    def test_nought_and_the_whole_house(self):
        for house in HOUSES + support.GREAT:
            self.assertEqual(self.check(house, support.nought_part(house))[1], form_of(house))
            self.assertEqual(self.check(house, support.whole_part(house)), none_way(house, ()))

    def test_great_houses(self):
        source = support.chance(221)
        with support.good_time():
            for house in support.GREAT:
                for many in (1, 2, 4, 8):
                    self.check(house, support.some_part(source, house, part_of, many))
                    some = [support.many_times(house, 1000, thing) for thing in support.things_with_one(house)]
                    self.check(house, part_of(house, some + [support.some_thing(source, house)]))

    def test_parts_between_are_those_of_the_house_cut(self):
        for house in HOUSES:
            for low in parts(house):
                way = cut(house, low)
                back = sorted(part_back(way, part) for part in parts(way[1]))
                self.assertEqual(back, parts_between(house, low, support.whole_part(house)), (house, low))


class Folded(unittest.TestCase):
    def check(self, way):
        before = repr(way)
        told = folded(way)
        self.assertEqual(repr(way), before)
        self.assertIs(type(told), tuple)
        first, second = told
        one, other, images = way
        form = first[1]
        self.assertTrue(support.shows_a_way(one, form, first), way)
        self.assertTrue(support.shows_a_way(form, other, second), way)
        self.assertEqual(form_of(form), form)
        self.assertEqual(then(first, second), way)
        self.assertEqual(falls(first), falls(way))
        self.assertEqual(reached(first), support.whole_part(form))
        self.assertEqual(falls(second), support.nought_part(form))
        self.assertEqual(reached(second), reached(way))
        # Cut by what falls, the house is alike to what is reached.
        self.assertEqual(form, part_way(other, reached(way))[0])
        return told

    def test_small_houses_all_ways(self):
        for one, other in PAIRS:
            for way in ways(one, other):
                first, second = self.check(way)
                for thing in support.all_things(one):
                    self.assertEqual(support.lead(second, support.lead(first, thing)), support.lead(way, thing))
                    self.assertEqual(any(support.lead(first, thing)), any(support.lead(way, thing)))
                told = [support.lead(second, thing) for thing in support.all_things(first[1])]
                self.assertEqual(len(set(told)), len(told))
                self.assertEqual({support.lead(first, thing) for thing in support.all_things(one)},
                                 set(support.all_things(first[1])))

    def test_all_to_nought_and_staying(self):
        for house in HOUSES + support.GREAT:
            self.assertEqual(self.check(none_way(house, (4, 6))), (none_way(house, ()), none_way((), (4, 6))))
            self.assertEqual(self.check(stay(house))[0][1], form_of(house))

    def test_great_houses(self):
        source = support.chance(222)
        with support.good_time():
            for one in support.GREAT:
                for other in support.GREAT:
                    self.check(support.some_way(source, one, other))
                self.check(support.some_turning(source, one))


if __name__ == "__main__":
    unittest.main()
