"""Point 3, over the whole program; and point 2: what is told is the asker's own, what is handed in stays as it was."""

import collections
import copy
import itertools
import math
import unittest

import support
from commonhouse.allparts import parts, parts_between
from commonhouse.allways import many_ways, ways
from commonhouse.apart import alike, apart_at
from commonhouse.beside import beside
from commonhouse.byprimes import by_primes, from_primes
from commonhouse.cuts import cut, folded
from commonhouse.desk import Desk
from commonhouse.errors import Endless
from commonhouse.falls import falls, reached
from commonhouse.forms import form_of, to_form
from commonhouse.fromtable import lets_names, names_of
from commonhouse.houses import size, things
from commonhouse.kinds import how_many, kinds
from commonhouse.papercheck import led_back, led_there, lets_paper
from commonhouse.papers import paper_of
from commonhouse.parts import numbers_for, part_of, part_size, part_way, things_in
from commonhouse.partsums import joined, lies_within, met
from commonhouse.primes import primes_of
from commonhouse.reader import read_given, read_house, read_paper, read_rows, read_way
from commonhouse.rows import mixed
from commonhouse.shut import shut
from commonhouse.sought import sought
from commonhouse.stairs import mixing
from commonhouse.steps import stepped
from commonhouse.tables import lets_table, table_of
from commonhouse.texts import show_given, show_paper, show_row, show_rows, show_way
from commonhouse.turnings import is_turning, many_turnings, turned_back, turnings
from commonhouse.turns import nought_at, of_turn
from commonhouse.voices import parting_voice, says, sayings
from commonhouse.waydeeds import minus_ways, plus_ways, then, times_way
from commonhouse.ways import is_way, stay
from commonhouse.words import nought_or_not

HOUSES = [(), (1,), (2,), (3,), (4,), (2, 2), (6,), (2, 3), (1, 6), (8,), (2, 4), (4, 2), (2, 2, 2), (9,), (3, 3), (12,), (2, 6), (3, 4), (4, 4), (16,)]


def some_given(source):
    many = source.randint(0, 5)
    most = source.choice((2, 9, 99))
    return many, support.some_rows(source, source.randint(many, 8), many, -most, most)


def paper_or_none(given):
    try:
        return paper_of(given)
    except Endless:
        return None


def turned_paper(given, paper, way):
    """Another paper of the given house: its form turned by a turning, and what shows it reckoned anew."""
    many, rules = given
    form, there, back, whys, turns = paper
    there = tuple(support.lead(way, thing) for thing in there)
    again = turned_back(way)
    back = tuple(led_back(paper, support.lead(again, thing)) for thing in support.things_with_one(form))
    whys = []
    for at, thing in enumerate(there):
        word = mixed(many, thing, back)
        whys.append(mixing(many, rules, tuple(int(place == at) - number for place, number in enumerate(word))))
    turns = [mixing(many, rules, tuple(limit * number for number in word)) for limit, word in zip(form, back)]
    return form, there, back, tuple(whys), tuple(turns)


class Papers(unittest.TestCase):
    def test_two_papers_of_one_given_house(self):
        source = support.chance(331)
        looked = 0
        for _ in range(60):
            given = some_given(source)
            paper = paper_or_none(given)
            if paper is not None:
                looked += 1
                other = turned_paper(given, paper, support.some_turning(source, paper[0]))
                self.assertIs(lets_paper(given, paper), True)
                self.assertIs(lets_paper(given, other), True, given)
                for _ in range(5):
                    word = tuple(source.randint(-50, 50) for _ in range(given[0]))
                    told = [any(led_there(one, word)) for one in (paper, other)]
                    self.assertEqual(told, [nought_or_not(given, word)[0] == "no"] * 2)
                    for one in (paper, other):
                        back = led_back(one, led_there(one, word))
                        less = tuple(x - y for x, y in zip(word, back))
                        self.assertEqual(nought_or_not(given, less)[0], "yes")
                        self.assertEqual(led_there(one, back), led_there(one, word))
        self.assertGreater(looked, 20)

    def test_makers_in_another_order_and_rules_mixed(self):
        source = support.chance(332)
        for _ in range(60):
            many, rules = some_given(source)
            paper = paper_or_none((many, rules))
            order = list(range(many))
            source.shuffle(order)
            changed = tuple(tuple(rule[at] for at in order) for rule in rules)
            for _ in range(6 if len(rules) > 1 else 0):
                i, j = source.sample(range(len(rules)), 2)
                step = source.choice([("add", i, j, source.choice((-1, 1))), ("swap", i, j), ("turn", i)])
                later = stepped(changed, step)
                changed = later if max((abs(x) for row in later for x in row), default=0) <= 99 else changed
            other = paper_or_none((many, changed))
            self.assertEqual(other and other[0], paper and paper[0], (many, rules))

    def test_the_form_of_a_given_house_is_that_of_its_rounds(self):
        for house in HOUSES:
            given = (len(house), support.nought_part(house))
            self.assertEqual(paper_of(given)[0], form_of(house))


class Houses(unittest.TestCase):
    def test_alike_just_where_as_many_are_nought_so_often(self):
        for one, other in itertools.product(HOUSES + [(2, 9), (18,), (3, 6)], repeat=2):
            numbers = range(1, 40)
            unlike = [n for n in numbers if nought_at(one, n) != nought_at(other, n)]
            self.assertEqual(form_of(one) == form_of(other), not unlike, (one, other))
            self.assertEqual(alike(one, other) is not None, not unlike)
            self.assertEqual(apart_at(one, other), unlike[0] if unlike else None)
            if not unlike:
                self.assertTrue(support.there_and_back(*alike(one, other)))

    def test_turns_and_primes(self):
        for house in HOUSES:
            self.assertEqual(sum(of_turn(house, n) for n in range(1, 40)), size(house))
            self.assertEqual(from_primes(by_primes(house)), form_of(house))


class Parts(unittest.TestCase):
    def test_all_told_each_once_and_counted(self):
        for house in HOUSES:
            told = parts(house)
            self.assertEqual(len(set(told)), len(told))
            self.assertEqual({support.set_of(house, part) for part in told}, support.part_sets(house))
            counted = collections.Counter(part_way(house, part)[0] for part in told)
            self.assertEqual(dict(kinds(house)), counted)
            self.assertTrue(all(how_many(house, kind) == many for kind, many in counted.items()))

    def test_joined_met_shut_cut_and_beside(self):
        for house in HOUSES:
            whole = support.whole_part(house)
            for first in parts(house):
                way = cut(house, first)
                self.assertEqual(len(parts_between(house, first, whole)), len(parts(way[1])))
                # The shut part is alike to the house cut.
                self.assertEqual(part_way(house, shut(house, first))[0], way[1])
                told = beside(house, first)
                if told[0] == "yes":
                    self.assertEqual(part_way(house, told[1])[0], way[1])
                for second in parts(house):
                    more, less = joined(house, first, second), met(house, first, second)
                    self.assertEqual(part_size(house, more) * part_size(house, less), part_size(house, first) * part_size(house, second))
                    self.assertEqual(lies_within(house, first, second), lies_within(house, shut(house, second), shut(house, first)))
                    if lies_within(house, first, second):
                        between = parts_between(house, first, second)
                        self.assertTrue(all(lies_within(house, first, part) and lies_within(house, part, second) for part in between))


class Ways(unittest.TestCase):
    def test_counted_and_told(self):
        for one, other in itertools.product(HOUSES[:14], repeat=2):
            told = ways(one, other)
            self.assertEqual(many_ways(one, other), len(told))
            self.assertEqual(len(set(told)), len(told))
            for way in told[::7]:
                more = [plus_ways(way, told[-1]), minus_ways(way, told[-1]), times_way(-5, way), then(way, stay(other))]
                self.assertTrue(all(is_way(found) and found in told for found in more))
                self.assertEqual(part_size(one, falls(way)) * part_size(other, reached(way)), size(one))
                first, second = folded(way)
                self.assertEqual(then(first, second), way)
                self.assertIsNotNone(alike(first[1], part_way(other, reached(way))[0]))
                for thing in things(other):
                    self.assertEqual(sought(way, thing)[0] == "yes", thing in things_in(other, reached(way)))

    def test_turnings_counted_and_told(self):
        for house in HOUSES:
            told = turnings(house)
            self.assertEqual(many_turnings(house), len(told))
            for way in told:
                self.assertIn(turned_back(way), told)
                self.assertTrue(is_turning(way))

    def test_voices(self):
        for house in HOUSES:
            for c in things(house):
                told = sayings(house, c)
                self.assertEqual(len({many for _, many in told}), 1)
                self.assertEqual(sum(many for _, many in told), size(house))
                other = things(house)[-1]
                parting = parting_voice(house, c, other)
                self.assertEqual(parting is None, c == other)
                if parting is not None:
                    self.assertNotEqual(says(house, parting, c), says(house, parting, other))


class TablesAndTexts(unittest.TestCase):
    def test_tables_of_houses_name_their_forms(self):
        for house in HOUSES:
            table = table_of(house)
            self.assertIs(lets_table(table), True)
            form, names = names_of(table)
            self.assertEqual(form, form_of(house))
            self.assertIs(lets_names(table, (form, names)), True)
            # The way to the form names the things, too.
            there = to_form(house)[1]
            self.assertIs(lets_names(table, (form, [support.lead(there, thing) for thing in things(house)])), True)

    def test_all_that_is_told_is_written_and_read(self):
        source = support.chance(333)
        for house in HOUSES + support.GREAT:
            self.assertEqual(read_house(show_row(house)), house)
            for way in (*to_form(house)[1:], support.some_turning(source, house), cut(house, support.some_part(source, house, part_of))):
                self.assertEqual(read_way(show_way(way)), way)
            part = support.some_part(source, house, part_of)
            self.assertEqual(read_rows(show_rows(part)), part)
        for _ in range(20):
            given = some_given(source)
            self.assertEqual(read_given(show_given(given)), given)
            paper = paper_or_none(given)
            if paper is not None:
                self.assertEqual(read_paper(show_paper(paper)), paper)
                self.assertEqual(Desk().say("given a " + show_given(given)), "ok")

    def test_told_numbers_can_be_written(self):
        # Rows that are told are written however many figures they have.
        self.assertEqual(len(show_row((math.factorial(2000),))), 5736)


class Own(unittest.TestCase):
    def test_told_lists(self):
        asked = [(primes_of, 360), (things, (2, 2)), (ways, (2,), (4,)), (by_primes, (4, 6)), (things_in, (4,), ((2,),)), (parts, (4,)),
                 (parts_between, (4,), ((4,),), ((1,),)), (kinds, (4,)), (turnings, (4,)), (sayings, (4,), (1,)), (table_of, (3,)),
                 (names_of, [[0, 1], [1, 0]])]
        for function, *handed in asked:
            first = function(*handed)
            kept = copy.deepcopy(first)
            lists = [first] if isinstance(first, list) else [part for part in first if isinstance(part, list)]
            self.assertTrue(lists, function)
            for told in lists:
                for row in told:
                    if isinstance(row, list):
                        row.append("changed")
                told.reverse()
                told.append("changed")
            self.assertEqual(function(*handed), kept, function)

    def test_handed_lists(self):
        some, table, names, told = [(2, 3), (1, 1)], [[0, 1], [1, 0]], [(0,), (1,)], [(2, (1, 2)), (3, (1,))]
        handed = [some, table, names, told]
        before = copy.deepcopy(handed)
        first = [part_of((4, 6), some), numbers_for((4, 6), some, (3, 4)), names_of(table), lets_names(table, ((2,), names)), lets_table(table),
                 from_primes(told), mixed(2, [1, 2], ((1, 0), (0, 1)))]
        self.assertEqual(handed, before)
        kept = copy.deepcopy(first)
        # What is told doesn't hang on what is done later to what was handed in.
        for one in handed:
            one.clear()
        self.assertEqual(first, kept)


if __name__ == "__main__":
    unittest.main()
