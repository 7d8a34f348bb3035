"""Point 34: the desk, its rows and its refusals."""

import unittest

import support
from commonhouse.allparts import parts
from commonhouse.allways import many_ways
from commonhouse.apart import alike, apart_at
from commonhouse.desk import Desk
from commonhouse.errors import Endless, HouseError, NoName, NoRow, NoText, NoThing, TooGreat
from commonhouse.forms import form_of
from commonhouse.houses import size, things
from commonhouse.kinds import kinds
from commonhouse.papers import paper_of
from commonhouse.reader import read_row, read_rows
from commonhouse.texts import show_given, show_row, show_rows
from commonhouse.turnings import many_turnings, turnings
from commonhouse.turns import turn

HOUSES = [(), (1,), (1,) * 6, (2,), (4, 6), (2, 12), (2, 2), (48,), (1, 1, 1, 1, 1, 48), (6, 8), (2, 2, 3), (3, 1, 3)]
ONE_NAME = ["drop", "show", "form", "size", "things", "parts", "kinds", "turnings"]
TWO_NAMES = ["alike", "ways"]
WITH_MORE = ["house", "given", "turn"]
# Words that are no names.
NO_NAMES = ["", "A", "aB", "abcdefghi", "a1", "1", "-", "a-b", "a_b", "a.", "a\n", "\na", "\n", "\u00e4", "\u0430", "a\t", "x;", "none!"]


def desk_with(houses):
    """A desk with houses by names."""
    desk = Desk()
    for name, house in houses.items():
        desk.say("house " + name + " " + show_row(house))
    return desk


def shown(desk, names):
    """What stands by names, None where nothing does."""
    found = []
    for name in names:
        try:
            found.append(desk.say("show " + name))
        except NoName:
            found.append(None)
    return found


class Rows(unittest.TestCase):
    def say(self, desk, row):
        told = desk.say(row)
        self.assertIs(type(told), str, row)
        return told

    def test_examples(self):
        desk = Desk()
        for row, answer in [("house a 4 6", "ok"), ("show a", "4 6"), ("form a", "2 12"), ("size a", "24"), ("turn a 1 2", "12"), ("parts a", "16"),
                            ("house b 4", "ok"), ("things b", "0 ; 1 ; 2 ; 3"), ("kinds b", "- x 1 ; 2 x 1 ; 4 x 1"), ("turnings b", "2"),
                            ("house c 2 2", "ok"), ("alike b c", "no 2"), ("ways b c", "4"), ("things c", "0 0 ; 0 1 ; 1 0 ; 1 1"),
                            ("kinds c", "- x 1 ; 2 x 3 ; 2 2 x 1"), ("turnings c", "6"), ("parts c", "5"), ("given d 2 : 4 0 ; 0 6", "ok"),
                            ("show d", "2 12"), ("alike a d", "yes"), ("alike d a", "yes"), ("drop d", "ok"), ("given d 0 : none", "ok"), ("show d", "-"),
                            ("size d", "1"), ("things d", "-"), ("turn d -", "1"), ("kinds d", "- x 1"), ("parts d", "1"), ("turnings d", "1"),
                            ("ways d a", "1"), ("alike d d", "yes"), ("form d", "-"), ("alike d b", "no 2")]:
            self.assertEqual(self.say(desk, row), answer, row)

    def test_by_what_the_functions_tell(self):
        names = [chr(ord("a") + at) * (at % 8 + 1) for at in range(len(HOUSES))]
        houses = dict(zip(names, HOUSES))
        desk = desk_with(houses)
        for name, house in houses.items():
            self.assertEqual(self.say(desk, "show " + name), show_row(house))
            self.assertEqual(self.say(desk, "form " + name), show_row(form_of(house)))
            self.assertEqual(self.say(desk, "size " + name), str(size(house)))
            self.assertEqual(self.say(desk, "things " + name), show_rows(things(house)))
            self.assertEqual(list(read_rows(desk.say("things " + name))), things(house))
            self.assertEqual(self.say(desk, "parts " + name), str(len(parts(house))))
            self.assertEqual(self.say(desk, "turnings " + name), str(many_turnings(house)))
            told = [part.split(" x ") for part in self.say(desk, "kinds " + name).split(" ; ")]
            self.assertEqual([(read_row(kind), int(many)) for kind, many in told], kinds(house))
            for thing in things(house)[::5]:
                self.assertEqual(self.say(desk, "turn " + name + " " + show_row(thing)), str(turn(house, thing)))
            for other_name, other in houses.items():
                self.assertEqual(self.say(desk, f"ways {name} {other_name}"), str(many_ways(house, other)))
                answer = "yes" if alike(house, other) else f"no {apart_at(house, other)}"
                self.assertEqual(self.say(desk, f"alike {name} {other_name}"), answer)

    def test_great_houses(self):
        desk = desk_with({"six": support.SIX, "same": (1000000,) * 6, "one": (1, 1, 1, 1, 1, 1000000)})
        with support.good_time():
            self.assertEqual(desk.say("show six"), show_row(support.SIX))
            self.assertEqual(desk.say("size same"), "1" + "0" * 36)
            self.assertEqual(desk.say("turn same 1 0 0 0 0 0"), "1000000")
            self.assertEqual(desk.say("turnings six"), str(many_turnings(support.SIX)))
            self.assertEqual(desk.say("ways same same"), "1" + "0" * 216)
            self.assertEqual(desk.say("alike six same"), f"no {apart_at(support.SIX, (1000000,) * 6)}")
            # What was told may be handed in, however great.
            self.assertEqual(desk.say("house form " + desk.say("form six")), "ok")
            self.assertEqual(desk.say("alike six form"), "yes")
            self.assertEqual(desk.say("form form"), desk.say("form six"))
            self.assertEqual(desk.say("turnings form"), desk.say("turnings six"))
            self.assertEqual(desk.say("alike form one"), desk.say("alike six one"))

    def test_given_houses(self):
        source = support.chance(321)
        desk = Desk()
        for given in [(0, ()), (0, ((),)), (1, ((4,), (6,))), (1, ((1,),)), (2, ((2, 0), (0, 3))), (5, support.some_rows(source, 8, 5, -99, 99)),
                      (5, support.some_rows(source, 5, 5, -99, 99)), (3, ((2, 0, 0), (0, 2, 0), (0, 0, 4)))]:
            self.assertEqual(self.say(desk, "given a " + show_given(given)), "ok")
            form = paper_of(given)[0]
            self.assertEqual(desk.say("show a"), show_row(form))
            self.assertEqual(desk.say("form a"), show_row(form))
            self.assertEqual(desk.say("turnings a"), str(many_turnings(form)))

    def test_names_of_one_and_of_eight_letters(self):
        desk = Desk()
        for name in ["a", "z", "abcdefgh", "zzzzzzzz", "house", "show", "x", "none", "drop"]:
            self.assertEqual(desk.say(f"house {name} {len(name)}"), "ok")
            self.assertEqual(desk.say("show " + name), str(len(name)))
        self.assertEqual(desk.say("show a"), "1")
        self.assertEqual(desk.say("ways house drop"), "1")

    def test_a_name_told_anew(self):
        desk = Desk()
        desk.say("house a 4")
        desk.say("house b 9")
        self.assertEqual(desk.say("house a 6"), "ok")
        self.assertEqual(shown(desk, "ab"), ["6", "9"])
        self.assertEqual(desk.say("given a 1 : 5"), "ok")
        self.assertEqual(shown(desk, "ab"), ["5", "9"])
        self.assertEqual(desk.say("house a -"), "ok")
        self.assertEqual(shown(desk, "ab"), ["-", "9"])

    def test_a_name_dropped_and_told_again(self):
        desk = desk_with({"a": (4,), "b": (9,)})
        self.assertEqual(desk.say("drop a"), "ok")
        self.assertEqual(shown(desk, "ab"), [None, "9"])
        support.refused(self, NoName, desk.say, "drop a")
        support.refused(self, NoName, desk.say, "show a")
        self.assertEqual(desk.say("house a 7"), "ok")
        self.assertEqual(shown(desk, "ab"), ["7", "9"])

    def test_two_desks_keep_their_own(self):
        first, second = Desk(), Desk()
        first.say("house a 4")
        support.refused(self, NoName, second.say, "show a")
        second.say("house a 6")
        second.say("house b 2")
        self.assertEqual((shown(first, "ab"), shown(second, "ab")), (["4", None], ["6", "2"]))
        second.say("drop a")
        self.assertEqual((shown(first, "ab"), shown(second, "ab")), (["4", None], [None, "2"]))
        self.assertEqual(shown(Desk(), "ab"), [None, None])


class Refusals(unittest.TestCase):
    def setUp(self):
        self.desk = desk_with({"a": (4, 6), "b": (2, 12), "c": (1000, 1000), "e": ()})
        self.before = shown(self.desk, "abcdexyz")

    def tearDown(self):
        # What is refused changes nothing.
        self.assertEqual(shown(self.desk, "abcdexyz"), self.before)

    def refuse(self, kind, row):
        return support.refused(self, kind, self.desk.say, row)

    def test_what_is_no_text(self):
        for thing in support.ODD_THINGS:
            if not isinstance(thing, str):
                self.refuse(NoRow, thing)
        for thing in [b"show a", ["show a"], ("show", "a"), ["show", "a"], 5]:
            self.refuse(NoRow, thing)

    def test_first_words(self):
        for row in ["", " ", "  ", "a", "say a", "Show a", "SHOW a", " show a", "shows a", "show\n a", "\nshow a", "show\ta", "-", "none", "house\n a 4",
                    "things", "to a", "x a b", "ok", "yes", "names a", "voices a", "table a", "way a b", "kind a", "part a", "1 a", "\u00e4 a"]:
            self.refuse(NoRow, row)

    def test_how_many_words(self):
        for word in ONE_NAME:
            for row in [word, word + " ", word + " a b", word + " a ", word + "  a", word + " a  ", " " + word + " a", word + " a 4"]:
                self.refuse(NoRow, row)
        for word in TWO_NAMES:
            for row in [word, word + " a", word + " a ", word + " a  b", word + " a b ", word + "  a b", word + " a b c", word + " "]:
                self.refuse(NoRow, row)
        for word in WITH_MORE:
            for row in [word, word + " ", word + " a", word + "  a", word + "  "]:
                self.refuse(NoRow, row)

    def test_no_name_where_one_is_due(self):
        for name in NO_NAMES:
            for word in ONE_NAME:
                self.refuse(NoRow, word + " " + name)
            for word in TWO_NAMES:
                for row in [f"{word} a {name}", f"{word} {name} a", f"{word} x {name}", f"{word} {name} x", f"{word} {name} {name}"]:
                    self.refuse(NoRow, row)
            for row in [f"house {name} 4", f"given {name} 0 : none", f"turn {name} 1 1", f"house {name} 04", f"given {name} x", f"turn {name} x"]:
                self.refuse(NoRow, row)

    def test_names_by_which_no_house_stands(self):
        for word in ONE_NAME:
            for name in ["x", "aa", "abcdefgh", "house", "ab"]:
                self.refuse(NoName, word + " " + name)
        for word in TWO_NAMES:
            for row in [word + " x a", word + " a x", word + " x y", word + " x x"]:
                self.refuse(NoName, row)
        for more in ["1 1", "0 0", "-", "", "x", " ", "01", "1 ; 1", "1  1", "9 9", "1 1\n"]:
            self.refuse(NoName, "turn x " + more)

    def test_rows_that_are_not_so_written(self):
        for more in ["", " ", "x", "04", "4 ", " 4", "4  6", "+4", "-0", "4 ; 6", "none", "4\n", "4 6\n", "\n", "- -", "4 -", "4,6"]:
            self.refuse(NoText, "house a " + more)
            self.refuse(NoText, "house x " + more)
            self.refuse(NoText, "turn a " + more)
        # Rows that tell no house.
        for more in ["0", "-1", "4 0", "1 1 1 1 1 1 1", "4 -6"]:
            self.refuse(NoText, "house a " + more)
            self.refuse(NoText, "house x " + more)
        for more in ["", " ", "x", "1", "1 :", ": 1", "1 : 1 ", " 1 : 1", "1  : 1", "1: 1", "1 : 1 2", "6 : none", "1 : 100", "-1 : none", "0 : 0",
                     "1 : 1 ; 1 ; 1 ; 1 ; 1 ; 1 ; 1 ; 1 ; 1", "01 : 1", "1 : 01", "1 : 1\n", "4 6", "1 : 1 : 1", "1 : 1 ; 1 2", "- : none"]:
            self.refuse(NoText, "given a " + more)
            self.refuse(NoText, "given x " + more)

    def test_rows_that_are_no_things(self):
        for more in ["4 0", "0 6", "-1 0", "0", "0 0 0", "-", "1", "100 100", "0 -1", "9" * 30 + " 0"]:
            self.refuse(NoThing, "turn a " + more)
        for more in ["0", "1", "0 0", "-1"]:
            self.refuse(NoThing, "turn e " + more)

    def test_endless(self):
        for more in ["1 : none", "2 : 1 1", "1 : 0", "5 : 1 0 0 0 0 ; 0 1 0 0 0 ; 0 0 1 0 0 ; 0 0 0 1 0", "2 : 2 4 ; 3 6"]:
            for name in ("a", "x"):
                found = self.refuse(Endless, f"given {name} {more}")
                many, rules = more.split(" : ")
                self.assertEqual(len(found.row), int(many))
                self.assertTrue(any(found.row))

    def test_too_great(self):
        for word in ["things", "parts", "kinds"]:
            self.refuse(TooGreat, word + " c")
        for row, word, more in [("house d 401", "things", "house d 400"), ("house d 49", "parts", "house d 48"), ("house d 7 7", "parts", "house d 6 8"),
                                ("house d 4097", "kinds", "house d 4096"), ("house d 64 65", "kinds", "house d 64 64")]:
            self.desk.say(row)
            self.refuse(TooGreat, word + " d")
            self.desk.say(more)
            self.desk.say(word + " d")
        self.desk.say("drop d")
        # How many turnings there are is counted, not gone through.
        support.refused(self, TooGreat, turnings, (1000, 1000))
        self.assertEqual(self.desk.say("turnings c"), str(many_turnings((1000, 1000))))

    def test_which_goes_first(self):
        # No row ahead of no name.
        for row in ["show x y", "alike x A", "alike A x", "turn x", "drop X", "ways x", "kinds x "]:
            self.refuse(NoRow, row)
        # No name ahead of no text and of what the points tell.
        for row in ["turn x a", "turn x  ", "turn x 9 9", "alike c x", "alike x c"]:
            self.refuse(NoName, row)
        # No text ahead of what the points tell.
        for row in ["turn a 9 9 ", "turn a 09 9", "turn e 1\n"]:
            self.refuse(NoText, row)
        self.refuse(NoText, "given a 1 : 00")

    def test_a_refused_row_leaves_what_stood(self):
        for row in ["house a 0", "house a 4  6", "given a 1 : none", "given a 6 : none", "given b 2 : 1 1", "drop x", "drop a ", "house A 4", "turn a 9 9"]:
            with self.assertRaises(HouseError):
                self.desk.say(row)
            self.assertEqual(shown(self.desk, "abcdexyz"), self.before, row)


if __name__ == "__main__":
    unittest.main()
