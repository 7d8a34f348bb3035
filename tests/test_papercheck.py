"""Points 12 and 13: how papers lead, and which are let by."""

import itertools
import unittest

import support
from commonhouse.errors import NoPaper
from commonhouse.papercheck import led_back, led_there, lets_paper
from commonhouse.papers import paper_of

SIX = (2, ((2, 0), (0, 3)))
SIX_PAPER = ((6,), ((3,), (2,)), ((1, -1),), ((-1, 1), (-1, 1)), ((3, -2),))
EIGHT = (2, ((2, 0), (0, 4)))
EIGHT_PAPER = ((2, 4), ((1, 0), (0, 1)), ((1, 0), (0, 1)), ((0, 0), (0, 0)), ((1, 0), (0, 1)))
HUGE = 10 ** 60


def word_there(paper, word):
    """Where a word is led, reckoned apart from the program."""
    form, there = paper[0], paper[1]
    return tuple(sum(n * thing[i] for n, thing in zip(word, there)) % form[i] for i in range(len(form)))


def word_back(paper, thing, makers):
    return tuple(sum(n * word[j] for n, word in zip(thing, paper[2])) for j in range(makers))


def mix(numbers, rules, makers):
    return tuple(sum(n * rule[j] for n, rule in zip(numbers, rules)) for j in range(makers))


def all_wrong(given, paper):
    """All that isn't so of a paper with the right shape, in the order of the document."""
    makers, rules = given
    form, there, back, whys, turns = paper
    wrong = []
    for i in range(len(form)):
        if form[i] == 1 or (i + 1 < len(form) and form[i + 1] % form[i] != 0):
            wrong.append(("form", i))
    wrong += [("rule", k) for k, rule in enumerate(rules) if any(word_there(paper, rule))]
    for i, word in enumerate(back):
        if word_there(paper, word) != tuple(int(place == i) for place in range(len(form))):
            wrong.append(("round", i))
    for j in range(makers):
        led = word_back(paper, there[j], makers)
        if tuple(int(place == j) - led[place] for place in range(makers)) != mix(whys[j], rules, makers):
            wrong.append(("maker", j))
    for i, word in enumerate(back):
        if tuple(form[i] * x for x in word) != mix(turns[i], rules, makers):
            wrong.append(("turn", i))
    return wrong


class LetsPaper(unittest.TestCase):
    def check_let(self, given, paper):
        self.assertEqual(all_wrong(given, paper), [])
        self.assertIs(lets_paper(given, paper), True)

    def check_refused(self, given, paper, word, number):
        refusal = support.refused(self, NoPaper, lets_paper, given, paper)
        self.assertEqual((refusal.word, refusal.number), (word, number), paper)
        self.assertTrue(support.is_plain((refusal.word, refusal.number)))

    def check_alone(self, given, paper, word, number):
        """Just this one thing isn't so."""
        self.assertEqual(all_wrong(given, paper), [(word, number)])
        self.check_refused(given, paper, word, number)

    def test_papers_of_other_hands(self):
        self.check_let(SIX, SIX_PAPER)
        self.check_let(SIX, ((6,), ((3,), (4,)), ((1, 1),), ((-1, -1), (-2, -1)), ((3, 2),)))
        self.check_let(SIX, ((6,), ((3,), (2,)), ((-5, 5),), ((8, -5), (5, -3)), ((-15, 10),)))
        self.check_let(EIGHT, EIGHT_PAPER)
        self.check_let(EIGHT, ((2, 4), ((1, 2), (1, 1)), ((1, 2), (1, -1)), ((-1, 0), (-1, 0)), ((1, 1), (2, -1))))
        self.check_let(EIGHT, ((2, 4), ((1, 0), (0, 1)), ((1, 4), (8, 1)), ((0, -1), (-4, 0)), ((1, 2), (16, 1))))

    def test_other_whys_and_turns_where_rules_hang_together(self):
        given = (1, ((4,), (6,), (0,)))
        for why in [(0, 0, 0), (3, -2, 5), (-3, 2, HUGE)]:
            for turns in [(-1, 1, 0), (2, -1, -9), (5, -3, HUGE)]:
                self.check_let(given, ((2,), ((1,),), ((1,),), (why,), (turns,)))

    def test_forms_without_rounds(self):
        self.check_let((0, ()), ((), (), (), (), ()))
        self.check_let((0, ((), ())), ((), (), (), (), ()))
        self.check_let((1, ((1,),)), ((), ((),), (), ((1,),), ()))
        self.check_let((2, ((1, 1), (0, 1))), ((), ((), ()), (), ((1, -1), (0, 1)), ()))
        self.check_refused((0, ()), ((2,), (), ((),), (), ((),)), "round", 0)

    def test_form_alone(self):
        swapped = ((4, 2), ((0, 1), (1, 0)), ((0, 1), (1, 0)), ((0, 0), (0, 0)), ((0, 1), (1, 0)))
        self.check_alone(EIGHT, swapped, "form", 0)
        self.check_alone(SIX, ((2, 3), ((1, 0), (0, 1)), ((1, 0), (0, 1)), ((0, 0),) * 2, ((1, 0), (0, 1))), "form", 0)
        three = (3, ((2, 0, 0), (0, 6, 0), (0, 0, 4)))
        units, noughts = support.square_units(3), ((0, 0, 0),) * 3
        self.check_alone(three, ((2, 6, 4), units, units, noughts, units), "form", 1)
        # A round of 1 has no thing with 1 in it: so two aren't so, and the form goes first.
        for at in range(3):
            form = (2, 4)[:at] + (1,) + (2, 4)[at:]
            there = tuple(thing[:at] + (0,) + thing[at:] for thing in EIGHT_PAPER[1])
            back = EIGHT_PAPER[2][:at] + ((0, 0),) + EIGHT_PAPER[2][at:]
            turns = EIGHT_PAPER[4][:at] + ((0, 0),) + EIGHT_PAPER[4][at:]
            paper = (form, there, back, EIGHT_PAPER[3], turns)
            self.assertIn(("form", at), all_wrong(EIGHT, paper))
            self.check_refused(EIGHT, paper, *all_wrong(EIGHT, paper)[0])

    def test_rule_alone(self):
        self.check_alone((1, ((2,),)), ((4,), ((1,),), ((1,),), ((0,),), ((2,),)), "rule", 0)
        self.check_alone((1, ((4,), (2,))), ((4,), ((1,),), ((1,),), ((0, 0),), ((1, 0),)), "rule", 1)
        self.check_alone((1, ((HUGE,), (HUGE + 1,), (0,))),
                         ((HUGE,), ((1,),), ((1,),), ((0, 0, 0),), ((1, 0, 0),)), "rule", 1)

    def test_round_alone(self):
        self.check_alone((1, ((2,),)), ((2, 2), ((1, 0),), ((1,), (0,)), ((0,),), ((1,), (0,))), "round", 1)
        self.check_alone((1, ((2,),)), ((2, 2), ((0, 1),), ((0,), (1,)), ((0,),), ((0,), (1,))), "round", 0)

    def test_maker_alone(self):
        given = (2, ((2, 0), (0, 2)))
        self.check_alone(given, ((2,), ((1,), (0,)), ((1, 0),), ((0, 0), (0, 0)), ((1, 0),)), "maker", 1)
        self.check_alone(given, ((2,), ((0,), (1,)), ((0, 1),), ((0, 0), (0, 0)), ((0, 1),)), "maker", 0)
        for whys, number in [(((-1, 1), (-1, 2)), 1), (((0, 1), (-1, 1)), 0), (((-1, 1), (1, -1)), 1)]:
            self.check_alone(SIX, SIX_PAPER[:3] + (whys,) + SIX_PAPER[4:], "maker", number)

    def test_turn_alone(self):
        self.check_alone((1, ((4,),)), ((2,), ((1,),), ((1,),), ((0,),), ((0,),)), "turn", 0)
        self.check_alone(SIX, SIX_PAPER[:4] + (((3, 2),),), "turn", 0)
        self.check_alone(EIGHT, EIGHT_PAPER[:4] + (((1, 0), (0, 2)),), "turn", 1)
        self.check_alone(EIGHT, EIGHT_PAPER[:4] + (((0, 0), (0, 1)),), "turn", 0)

    def test_two_at_once(self):
        form, there, back, whys, turns = EIGHT_PAPER
        cases = [
            (((4, 8), there, back, whys, turns), ("rule", 0)),
            (((3, 4), there, back, whys, turns), ("form", 0)),
            ((form, ((1, 1), (1, 1)), back, whys, turns), ("rule", 0)),
            ((form, there, ((0, 1), (1, 0)), whys, turns), ("round", 0)),
            ((form, there, ((1, 0), (0, 2)), whys, turns), ("round", 1)),
            ((form, there, back, ((0, 1), (1, 0)), turns), ("maker", 0)),
            ((form, there, back, ((0, 0), (1, 0)), ((0, 0), (0, 0))), ("maker", 1)),
            ((form, there, back, whys, ((0, 0), (0, 0))), ("turn", 0)),
        ]
        for paper, first in cases:
            self.assertGreater(len(all_wrong(EIGHT, paper)), 1, paper)
            self.assertEqual(all_wrong(EIGHT, paper)[0], first)
            self.check_refused(EIGHT, paper, *first)

    def test_changed_papers(self):
        source = support.chance(51)
        seen = {}
        for given in [SIX, EIGHT, (3, ((2, 0, 0), (0, 4, 0), (1, 1, 8))), (3, ((2, 1, 0), (0, 6, 3), (4, 0, 6), (0, 0, 9)))]:
            paper = paper_of(given)
            self.check_let(given, paper)
            for _ in range(400):
                form, *rest = paper
                changed = [form] + [list(map(list, rows)) for rows in rest]
                for _ in range(source.randint(1, 2)):
                    part = source.randrange(5)
                    if part == 0:
                        at = source.randrange(len(form))
                        changed[0] = changed[0][:at] + (source.randint(1, 12),) + changed[0][at + 1:]
                    else:
                        row = source.choice(changed[part])
                        row[source.randrange(len(row))] += source.choice((-2, -1, 1, 2))
                limits = changed[0]
                there = tuple(tuple(x % limit for x, limit in zip(row, limits)) for row in changed[1])
                other = (limits, there) + tuple(tuple(map(tuple, rows)) for rows in changed[2:])
                wrong = all_wrong(given, other)
                if wrong:
                    seen[wrong[0]] = True
                    self.check_refused(given, other, *wrong[0])
                else:
                    self.check_let(given, other)
        self.assertEqual({word for word, _ in seen}, {"form", "rule", "round", "maker", "turn"})
        self.assertGreater(len(seen), 8)


class Shape(unittest.TestCase):
    def check_shape(self, given, thing):
        refusal = support.refused(self, NoPaper, lets_paper, given, thing)
        self.assertEqual((refusal.word, refusal.number), ("shape", 0), thing)

    def test_whatever_thing(self):
        for given in [(0, ()), (1, ()), SIX, EIGHT]:
            for thing in support.ODD_THINGS + [(), ((),), ((),) * 4, ((),) * 6, [(), (), (), (), ()]]:
                self.check_shape(given, thing)

    def test_whatever_thing_in_the_place_of_a_part(self):
        wrong = support.ODD_THINGS + [((), ()), ((0,),), ((0, 0, 0),) * 2]
        for part in range(5):
            for thing in wrong:
                # Two things of the form may stand there, but they aren't the right ones.
                if (part, thing) != (1, ((1,), (1,))):
                    self.check_shape(SIX, SIX_PAPER[:part] + (thing,) + SIX_PAPER[part + 1:])

    def test_lists_in_the_place_of_tuples(self):
        self.check_shape(SIX, list(SIX_PAPER))
        for part in range(5):
            self.check_shape(SIX, SIX_PAPER[:part] + (list(SIX_PAPER[part]),) + SIX_PAPER[part + 1:])
        for part in range(1, 5):
            for at in range(len(SIX_PAPER[part])):
                rows = list(SIX_PAPER[part])
                rows[at] = list(rows[at])
                self.check_shape(SIX, SIX_PAPER[:part] + (tuple(rows),) + SIX_PAPER[part + 1:])

    def test_a_part_more_or_less(self):
        self.check_shape(SIX, SIX_PAPER[:4])
        self.check_shape(SIX, SIX_PAPER + ((),))
        for part in range(1, 5):
            rows = SIX_PAPER[part]
            for other in (rows[:-1], rows + rows[:1]):
                self.check_shape(SIX, SIX_PAPER[:part] + (other,) + SIX_PAPER[part + 1:])

    def test_a_number_more_or_less_and_what_is_no_number(self):
        for part in range(1, 5):
            for at, row in enumerate(SIX_PAPER[part]):
                wrong = [row[:-1], row + (0,), (True,) + row[1:], (None,) + row[1:], ("1",) + row[1:], ((1,),) + row[1:]]
                for other in wrong:
                    rows = SIX_PAPER[part][:at] + (other,) + SIX_PAPER[part][at + 1:]
                    self.check_shape(SIX, SIX_PAPER[:part] + (rows,) + SIX_PAPER[part + 1:])

    def test_the_form_a_house(self):
        for form in [(0,), (-6,), (True,), (None,), [6], 6, None, "6", (6, 0), ((6,),)]:
            self.check_shape(SIX, (form,) + SIX_PAPER[1:])
        seven = (2,) * 7
        makers, noughts = support.square_units(7), ((0,) * 7,) * 7
        rules = tuple(tuple(2 * x for x in row) for row in makers)
        self.check_shape((7, rules), (seven, makers, makers, noughts, makers))

    def test_there_things_of_the_form(self):
        for there in [((6,), (2,)), ((3,), (6,)), ((-1,), (2,)), ((3,), (-2,)), ((HUGE,), (2,))]:
            self.check_shape(SIX, SIX_PAPER[:1] + (there,) + SIX_PAPER[2:])

    def test_shape_goes_first(self):
        self.check_shape(SIX, ((1,), ((0,), (0,)), ((1, -1),), ((0, 0), (0, 0)), [(3, -2)]))
        self.check_shape(SIX, ((1,), ((0,), (1,)), ((1, -1),), ((0, 0), (0, 0)), ((3, -2),)))


class Led(unittest.TestCase):
    def test_examples(self):
        self.assertEqual(led_there(SIX_PAPER, (1, 0)), (3,))
        self.assertEqual(led_there(SIX_PAPER, (1, 1)), (5,))
        self.assertEqual(led_there(SIX_PAPER, (-1, 7)), (5,))
        self.assertEqual(led_back(SIX_PAPER, (5,)), (5, -5))
        self.assertEqual(led_back(EIGHT_PAPER, (1, 3)), (1, 3))
        self.assertEqual(led_there(((), (), (), (), ()), ()), ())
        self.assertEqual(led_back(((), (), (), (), ()), ()), ())
        nought = ((), ((), ()), (), ((1, -1), (0, 1)), ())
        self.assertEqual(led_there(nought, (10 ** 29, -7)), ())
        self.assertEqual(led_back(nought, ()), (0, 0))

    def test_as_reckoned(self):
        for given, paper in [(SIX, SIX_PAPER), (EIGHT, EIGHT_PAPER)]:
            for word in itertools.product(range(-7, 8), repeat=2):
                self.assertEqual(led_there(paper, word), word_there(paper, word))
            for thing in support.all_things(paper[0]):
                self.assertEqual(led_back(paper, thing), word_back(paper, thing, given[0]))

    def test_great_forms_and_words(self):
        paper = ((HUGE,), ((1,),), ((1,),), ((0,),), ((1,),))
        self.assertIs(lets_paper((1, ((HUGE,),)), paper), True)
        self.assertEqual(led_there(paper, (-1,)), (HUGE - 1,))
        self.assertEqual(led_there(paper, (HUGE * HUGE + 5,)), (5,))
        self.assertEqual(led_back(paper, (HUGE - 1,)), (HUGE - 1,))

    def test_what_is_told_is_plain_and_what_is_handed_in_stays(self):
        before = repr(SIX_PAPER)
        self.assertTrue(support.is_plain(led_there(SIX_PAPER, (5, 5))))
        self.assertTrue(support.is_plain(led_back(SIX_PAPER, (5,))))
        self.assertEqual(repr(SIX_PAPER), before)
        handed = [list(part) for part in SIX_PAPER]
        before = repr(handed)
        support.refused(self, NoPaper, lets_paper, SIX, handed)
        self.assertEqual(repr(handed), before)


if __name__ == "__main__":
    unittest.main()
