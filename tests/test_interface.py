"""The interface: each name is there, and takes as many arguments by their places."""

import importlib
import inspect
import unittest

FUNCTIONS = {
    "numbers": {"common_measure": 2, "common_multiple": 2, "both": 2},
    "primes": {"primes_of": 1},
    "houses": {"is_house": 1, "is_thing": 2, "nought": 1, "plus": 3, "minus": 3, "times": 3, "size": 1, "things": 1},
    "turns": {"turn": 2, "last_turn": 1, "nought_at": 2, "of_turn": 2},
    "rows": {"is_rows": 2, "mixed": 3, "product": 3, "units": 1},
    "steps": {"is_step": 2, "stepped": 2, "taken_back": 1},
    "stairs": {"is_stair": 2, "stair_of": 2, "stair_with": 2, "mixing": 3},
    "diagonal": {"diagonal": 2},
    "given": {"is_given": 1},
    "words": {"nought_or_not": 2},
    "papercheck": {"lets_paper": 2, "led_there": 2, "led_back": 2},
    "papers": {"paper_of": 1},
    "ways": {"is_way": 1, "led": 2, "stay": 1, "none_way": 2},
    "waydeeds": {"then": 2, "plus_ways": 2, "minus_ways": 2, "times_way": 2},
    "allways": {"many_ways": 2, "ways": 2, "ways_house": 2, "way_of": 3, "thing_of": 1},
    "forms": {"form_of": 1, "to_form": 1},
    "apart": {"alike": 2, "apart_at": 2},
    "byprimes": {"by_primes": 1, "from_primes": 1},
    "parts": {"is_part": 2, "part_of": 2, "has": 3, "numbers_for": 3, "part_size": 2, "things_in": 2, "part_way": 2},
    "partsums": {"joined": 3, "met": 3, "lies_within": 3},
    "allparts": {"parts": 1, "parts_between": 3},
    "kinds": {"how_many": 2, "kinds": 1},
    "falls": {"falls": 1, "reached": 1, "part_along": 2, "part_back": 2},
    "cuts": {"cut": 2, "folded": 1},
    "turnings": {"is_turning": 1, "turned_back": 1, "many_turnings": 1, "turnings": 1},
    "voices": {"says": 3, "sayings": 2, "parting_voice": 3},
    "shut": {"shut": 2},
    "sought": {"sought": 2},
    "beside": {"beside": 2},
    "tables": {"lets_table": 1, "table_of": 1},
    "fromtable": {"names_of": 1, "lets_names": 2},
    "texts": {"show_row": 1, "show_rows": 1, "show_given": 1, "show_paper": 1, "show_way": 1},
    "reader": {"read_row": 1, "read_rows": 1, "read_house": 1, "read_given": 1, "read_paper": 1, "read_way": 1},
}

FIELDS = {
    "HouseError": None, "NoThing": None, "TooGreat": None, "NoFit": None, "NoText": None, "NoName": None,
    "NoRow": None, "Endless": ["row"], "NoPaper": ["word", "number"], "NoTable": ["word", "numbers"],
}


class Interface(unittest.TestCase):
    def test_functions(self):
        for module, functions in FUNCTIONS.items():
            found = importlib.import_module("commonhouse." + module)
            for name, many in functions.items():
                function = getattr(found, name)
                self.assertTrue(inspect.isfunction(function), name)
                self.assertEqual(function.__module__, "commonhouse." + module)
                self.assertEqual(len(inspect.signature(function).parameters), many, name)

    def test_error_classes(self):
        found = importlib.import_module("commonhouse.errors")
        for name, fields in FIELDS.items():
            kind = getattr(found, name)
            self.assertTrue(inspect.isclass(kind), name)
            if fields is not None:
                self.assertIn("__init__", vars(kind), name)
                self.assertEqual(list(inspect.signature(kind).parameters), fields)

    def test_desk(self):
        desk = importlib.import_module("commonhouse.desk").Desk
        self.assertTrue(inspect.isclass(desk))
        self.assertEqual(list(inspect.signature(desk).parameters), [])
        self.assertIn("say", vars(desk))
        self.assertEqual(len(inspect.signature(desk.say).parameters), 2)


if __name__ == "__main__":
    unittest.main()
