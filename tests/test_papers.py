"""Point 14: the paper of a given house, or what shows that it is endless; point 3 of one form for all papers."""

import itertools
import unittest

import support
from commonhouse.errors import Endless
from commonhouse.given import is_given
from commonhouse.papercheck import led_back, led_there, lets_paper
from commonhouse.papers import paper_of
from commonhouse.stairs import mixing
from commonhouse.steps import stepped
from commonhouse.words import nought_or_not
from test_papercheck import all_wrong

TABLE = [
    ((0, ()), ()),
    ((0, ((),) * 8), ()),
    ((1, ((1,),)), ()),
    ((1, ((-1,), (0,))), ()),
    ((1, ((4,), (6,))), (2,)),
    ((1, ((-99,),)), (99,)),
    ((1, ((99,), (-98,))), ()),
    ((2, ((2, 0), (0, 3))), (6,)),
    ((2, ((2, 0), (0, 4))), (2, 4)),
    ((2, ((0, 2), (4, 0), (0, 0))), (2, 4)),
    ((2, ((1, 2), (3, 4))), (2,)),
    ((2, ((2, 4), (6, 12), (-4, -8), (0, 5))), (10,)),
    ((3, ((2, 4, 4), (-6, 6, 12), (10, 4, 16))), (2, 2, 156)),
    ((5, tuple(tuple(99 * int(place == at) for place in range(5)) for at in range(5))), (99,) * 5),
    ((5, tuple(tuple(int(place == at) for place in range(5)) for at in range(5))), ()),
    ((5, ((2, 0, 0, 0, 0), (0, 3, 0, 0, 0), (0, 0, 5, 0, 0), (0, 0, 0, 7, 0), (0, 0, 0, 0, 11))), (2310,)),
]
ENDLESS = [
    (1, ()), (5, ()), (1, ((0,),)), (1, ((0,),) * 8), (2, ((1, 1),)), (2, ((2, 4), (3, 6))), (2, ((0, 0), (5, 0))),
    (2, ((5, 0), (0, 0))), (3, ((1, 2, 3), (4, 5, 6), (7, 8, 9))), (3, ((1, 0, -1), (0, 1, -1), (1, -1, 0))),
    (5, ((99, -99, 99, -99, 99),)), (5, ((99, -99, 99, -99, 98),) * 8), (2, ((-99, 99), (99, -99))),
]


class Papers(unittest.TestCase):
    def check(self, given):
        """The paper, checked by the checker and by reckoning; its form."""
        before = repr(given)
        paper = paper_of(given)
        self.assertEqual(repr(given), before)
        self.assertTrue(support.is_plain(paper))
        self.assertIs(type(paper), tuple)
        self.assertIs(lets_paper(given, paper), True)
        self.assertEqual(all_wrong(given, paper), [])
        return paper

    def check_endless(self, given):
        refusal = support.refused(self, Endless, paper_of, given)
        row = refusal.row
        self.assertTrue(support.is_plain(row))
        self.assertEqual((type(row), len(row)), (tuple, given[0]))
        self.assertTrue(any(row), given)
        self.assertTrue(all(sum(x * y for x, y in zip(row, rule)) == 0 for rule in given[1]), (given, row))

    def test_examples(self):
        for given, form in TABLE:
            self.assertTrue(is_given(given), given)
            self.assertEqual(self.check(given)[0], form, given)
        self.assertEqual(paper_of((0, ())), ((), (), (), (), ()))

    def test_endless(self):
        for given in ENDLESS:
            self.assertTrue(is_given(given), given)
            self.check_endless(given)

    def test_small_given_houses_all(self):
        for rules in itertools.product(itertools.product((-3, 0, 1, 2), repeat=2), repeat=2):
            given = (2, rules)
            size = abs(rules[0][0] * rules[1][1] - rules[0][1] * rules[1][0])
            if size == 0:
                self.check_endless(given)
            else:
                form = self.check(given)[0]
                found = 1
                for limit in form:
                    found *= limit
                self.assertEqual(found, size, given)

    def test_words_led_there_are_nought_just_where_they_are(self):
        source = support.chance(61)
        for given in [(2, ((2, 0), (0, 4))), (2, ((3, 3), (-6, 3))), (1, ((4,), (6,))), (3, ((2, 1, 0), (0, 2, 1), (1, 0, 2)))]:
            paper = self.check(given)
            form = paper[0]
            words = list(itertools.product(range(-3, 4), repeat=given[0]))
            for word in words + list(support.some_rows(source, 20, given[0], -(10 ** 30) + 1, 10 ** 30 - 1)):
                led = led_there(paper, word)
                self.assertEqual(not any(led), nought_or_not(given, word)[0] == "yes", (given, word))
                back = led_back(paper, led)
                self.assertIsNotNone(mixing(given[0], given[1], tuple(x - y for x, y in zip(word, back))))
            for thing in support.all_things(form):
                self.assertEqual(led_there(paper, led_back(paper, thing)), thing)

    def test_many_given_houses(self):
        source = support.chance(62)
        found = {"paper": 0, "endless": 0}
        with support.good_time():
            for makers in range(6):
                for many in range(9):
                    for limit in (1, 3, 99):
                        given = (makers, support.some_rows(source, many, makers, -limit, limit))
                        self.assertTrue(is_given(given))
                        try:
                            self.check(given)
                            found["paper"] += 1
                        except Endless:
                            self.check_endless(given)
                            found["endless"] += 1
        self.assertGreater(min(found.values()), 30)

    def test_five_makers_eight_rules(self):
        source = support.chance(63)
        with support.good_time():
            for _ in range(60):
                self.check((5, support.some_rows(source, 8, 5, -99, 99)))
                self.check((5, support.some_rows(source, 5, 5, -99, 99)))
            for _ in range(20):
                few = support.some_rows(source, 4, 5, -40, 40)
                self.check_endless((5, few + tuple(tuple(-2 * x for x in row) for row in few)))

    def test_one_form_for_makers_in_another_order_and_rules_mixed(self):
        source = support.chance(64)
        for makers, many in [(2, 2), (3, 4), (4, 5), (5, 8)]:
            rules = support.some_rows(source, many, makers, -6, 6)
            form = self.check((makers, rules))[0]
            order = source.sample(range(makers), makers)
            turned = tuple(tuple(rule[place] for place in order) for rule in rules)
            self.assertEqual(self.check((makers, turned))[0], form)
            self.assertEqual(self.check((makers, rules[::-1]))[0], form)
            for _ in range(25):
                i, j = source.sample(range(many), 2)
                rules = stepped(rules, source.choice([("add", i, j, source.choice((-1, 1))), ("swap", i, j), ("turn", i)]))
            self.assertEqual(self.check((makers, rules))[0], form)

    def test_rules_of_noughts_and_rules_that_are_so_many_times_another(self):
        for more in [((0, 0),), ((4, 0),), ((-2, 0), (0, 8), (0, 0)), ((2, 4), (2, -4), (0, 0), (0, 0), (0, 4), (98, 0))]:
            self.assertEqual(self.check((2, ((2, 0), (0, 4)) + more))[0], (2, 4))
            self.assertEqual(self.check((2, more + ((2, 0), (0, 4))))[0], (2, 4))


if __name__ == "__main__":
    unittest.main()
