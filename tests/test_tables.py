"""Points 31 and 32: tables of sums, let by or refused, and the table of a house."""

import copy
import itertools
import unittest

import support
from commonhouse.errors import NoTable, TooGreat
from commonhouse.houses import things
from commonhouse.tables import lets_table, table_of

HOUSES = [(), (1,), (2,), (3,), (2, 2), (4,), (1, 4, 1), (5,), (6,), (2, 3), (3, 2), (8,), (2, 4), (4, 2), (2, 2, 2), (3, 3), (12,),
          (16,), (4, 4), (2, 2, 2, 2), (8, 2), (1, 1, 1, 1, 1, 16), (2, 2, 1, 1, 2, 2)]

# The six ways to place three things, one behind the other: sums that hang on the order.
PLACINGS = list(itertools.permutations(range(3)))


def placings_table():
    return [[PLACINGS.index(tuple(one[k] for k in other)) for other in PLACINGS] for one in PLACINGS]


def most_table(many):
    """The greater of two as their sum: 0 is the nought, and no other number comes to it again."""
    return [[max(a, b) for b in range(many)] for a in range(many)]


def turned(table, order):
    """The same table, its numbers named anew: number k becomes order[k]."""
    back = {new: old for old, new in enumerate(order)}
    many = range(len(table))
    return [[order[table[back[a]][back[b]]] for b in many] for a in many]


def broken(table):
    """What breaks a table of the right shape, by the document's words one by one; None where nothing does."""
    many = range(len(table))
    noughts = [z for z in many if all(table[z][a] == a == table[a][z] for a in many)]
    if not noughts:
        return ("nought", ())
    for a, b in itertools.product(many, repeat=2):
        if table[a][b] != table[b][a]:
            return ("pair", (a, b))
    for a, b, c in itertools.product(many, repeat=3):
        if table[table[a][b]][c] != table[a][table[b][c]]:
            return ("triple", (a, b, c))
    for a in many:
        if not any(table[a][b] == noughts[0] for b in many):
            return ("other", (a,))
    return None


class Tables(unittest.TestCase):
    def check_refused(self, thing, word, numbers):
        found = support.refused(self, NoTable, lets_table, thing)
        self.assertEqual((found.word, found.numbers), (word, numbers), thing)
        self.assertTrue(support.is_plain(found.numbers))

    def check(self, table):
        before = copy.deepcopy(table)
        why = broken(table)
        if why is None:
            self.assertIs(lets_table(table), True)
        else:
            self.check_refused(table, *why)
        self.assertEqual(table, before)
        return why

    def test_tables_of_houses(self):
        for house in HOUSES:
            self.assertIsNone(self.check(table_of(house)), house)

    def test_a_nought_that_is_not_0(self):
        source = support.chance(281)
        for house in HOUSES:
            table = table_of(house)
            for _ in range(5):
                order = list(range(len(table)))
                source.shuffle(order)
                self.assertIsNone(self.check(turned(table, order)))
        self.assertIs(lets_table([[1, 0], [0, 1]]), True)

    def test_all_small_tables(self):
        words = set()
        for many in (1, 2, 3):
            for rows in itertools.product(itertools.product(range(many), repeat=many), repeat=many):
                why = self.check([list(row) for row in rows])
                words.add(why and why[0])
        self.assertEqual(words, {None, "nought", "pair", "triple", "other"})

    def test_good_tables_with_one_number_changed(self):
        source = support.chance(282)
        words = set()
        for house in HOUSES:
            table = table_of(house)
            for _ in range(12):
                changed = copy.deepcopy(table)
                a, b = source.randrange(len(table)), source.randrange(len(table))
                changed[a][b] = source.randrange(len(table))
                if source.random() < 0.5:
                    changed[b][a] = changed[a][b]
                why = self.check(changed)
                words.add(why and why[0])
        self.assertEqual(words, {None, "nought", "pair", "triple", "other"})

    def test_each_broken_alone(self):
        self.check_refused([[0, 0], [0, 0]], "nought", ())
        self.check_refused([[1, 1], [1, 1]], "nought", ())
        # One side alone is no nought: each row, or each column, is in order.
        self.check_refused([[0, 1], [0, 1]], "nought", ())
        self.check_refused([[0, 0], [1, 1]], "nought", ())
        self.check_refused(placings_table(), "pair", (1, 2))
        # 1 and 1, with 2: nought with 2; 1 with (1 and 2): 1 with 1.
        self.check_refused([[0, 1, 2], [1, 0, 1], [2, 1, 0]], "triple", (1, 1, 2))
        for many in range(2, 17):
            self.check_refused(most_table(many), "other", (1,))
        self.check_refused([[0, 1, 2], [1, 0, 2], [2, 2, 2]], "other", (2,))
        self.check_refused(turned(most_table(3), [2, 0, 1]), "other", (0,))

    def test_two_broken_at_once(self):
        # No nought and not one sum either way about.
        self.check_refused([[0, 1], [0, 1]], "nought", ())
        # Not one sum either way about, and not all three come to one sum, nor back to nought.
        self.check_refused([[0, 1, 2], [1, 1, 1], [2, 2, 1]], "pair", (1, 2))
        # Not all three come to one sum, and none comes back to nought.
        self.check_refused([[0, 1, 2], [1, 2, 2], [2, 2, 1]], "triple", (1, 1, 2))
        # Two pairs: the first as tuples compare.
        table = table_of((5,))
        table[4][3], table[2][1], table[1][3] = 0, 4, 0
        self.check_refused(table, "pair", (1, 2))
        # No shape and no nought.
        self.check_refused([[0, 0], [0, 2]], "shape", ())

    def test_16_numbers_and_17(self):
        def summed(many):
            return [[(a + b) % many for b in range(many)] for a in range(many)]

        for many in range(1, 17):
            self.assertIs(lets_table(summed(many)), True)
        for many in (0, 17, 18, 40):
            self.check_refused(summed(many), "shape", ())

    def test_shapes(self):
        for thing in [[], [[]], [0], [[0, 1]], [[0], [1]], [[0, 1], [1]], [[0, 1], [1, 0, 0]], [[0, 1], [1, 2]], [[0, 1], [1, -1]],
                      ([0],), [(0,)], ((0,),), [[0, 1], (1, 0)], ([0, 1], [1, 0]), [[False]], [[0, True], [True, 0]], [[0, 1], [1, False]],
                      [[None]], [["0"]], [[[0]]], [[0, 1], [1, "0"]], [[0, 1], None], [{0: 0}], {0: [0]}, [{0}], "0", [b"\x00"], [[10 ** 40]]]:
            self.check_refused(thing, "shape", ())

    def test_whatever_thing(self):
        for thing in support.ODD_THINGS:
            self.check_refused(thing, "shape", ())
            self.check_refused([thing], "shape", ())
            if not (type(thing) is int and thing == 0):
                self.check_refused([[thing]], "shape", ())
            if not (type(thing) is int and thing in (0, 1)):
                self.check_refused([[0, 1], [1, thing]], "shape", ())

    def test_one_list_for_each_row(self):
        row = [0, 0]
        self.check_refused([row, row], "nought", ())


class TableOf(unittest.TestCase):
    def test_small_houses(self):
        for house in HOUSES:
            everything = sorted(support.all_things(house))
            self.assertEqual(things(house), everything)
            told = table_of(house)
            self.assertTrue(type(told) is list and all(type(row) is list for row in told))
            self.assertTrue(support.is_plain(told))
            expected = [[everything.index(support.sum_of(house, a, b)) for b in everything] for a in everything]
            self.assertEqual(told, expected, house)

    def test_examples(self):
        self.assertEqual(table_of(()), [[0]])
        self.assertEqual(table_of((2,)), [[0, 1], [1, 0]])
        self.assertEqual(table_of((2, 2)), [[0, 1, 2, 3], [1, 0, 3, 2], [2, 3, 0, 1], [3, 2, 1, 0]])

    def test_houses_of_16_things_and_more(self):
        for house in [(16,), (2, 2, 2, 2), (1, 1, 1, 1, 1, 16), (4, 4), (15,), (3, 5)]:
            self.assertIs(lets_table(table_of(house)), True)
        for house in [(17,), (2, 9), (1, 1, 1, 1, 1, 17), (3, 6), (2,) * 5, (1000000,) * 6, (10 ** 60,)]:
            support.refused(self, TooGreat, table_of, house)

    def test_a_told_list_is_the_askers_own(self):
        told = table_of((2,))
        told[0][0] = 5
        told[1].append(None)
        told.append([])
        self.assertEqual(table_of((2,)), [[0, 1], [1, 0]])
        self.assertEqual(len({id(row) for row in table_of((1,)) + table_of((2,))}), 3)


if __name__ == "__main__":
    unittest.main()
