"""The interface: names, arguments, and methods that stand in the body of their own class."""

import importlib
import inspect
import unittest

FUNCTIONS = {
    "trees": {"is_tag": 1, "is_tree": 1, "is_path": 1, "size_of": 1, "depth_of": 1, "has_place": 2, "part_of": 2,
              "places_of": 1},
    "deeds": {"is_deed": 1, "done": 2},
    "leading": {"led": 3, "deed_back": 2, "all_done": 2},
    "sending": {"text_of": 1, "sent_numbers": 1, "tree_in": 1, "tree_of_numbers": 1, "span": 2, "span_of_numbers": 2},
    "flat": {"is_flat": 1, "flat_of": 1, "tree_of_flat": 1},
    "tied": {"tied": 1, "is_even": 1, "items_of": 1, "item_at": 2, "put_at": 3, "out_at": 2, "parted": 2, "tied_both": 2,
             "steps_of": 1, "fresh": 2},
    "walks": {"in_order": 2, "right_walk": 4},
    "patterns": {"is_test": 1, "is_pattern": 1, "own_patterns": 1, "all_patterns": 1, "marks_of": 1, "is_clear": 1,
                 "places_by": 3},
    "answers": {"test_holds": 3, "fits_table": 2, "right_fits": 3, "fits": 3, "is_reading": 3, "count_table": 2,
                "right_counts_of": 3, "readings": 2, "answers": 3, "answer_behind": 3, "reading_of": 3},
    "counts": {"count_paper": 1, "right_counts": 2},
    "costs": {"is_costs": 1, "walk_behind": 1, "lows_of": 1, "right_table": 4, "table_of": 3, "cost_between": 3},
    "matching": {"is_matching": 3, "is_top": 3, "cost_of": 4, "least_matching": 3, "top_matching": 2},
    "differ": {"deeds_of": 3, "difference": 3, "cost_of_deeds": 2},
    "sides": {"is_side": 2, "check_side": 2, "led_by_side": 2, "place_led": 3, "side_of": 3},
    "joining": {"clash": 3, "joined_sides": 3, "carried": 3, "three_ways": 3},
    "drawing": {"columns_of": 1, "drawn": 1, "width_of": 1, "is_drawing": 2, "read_drawing": 1, "sign_at": 3},
    "papers": {"right_columns": 2, "columns_paper": 1},
    "grove": {"make_of": 2},
    "regrown": {"read_grove": 1, "grown": 1},
    "words": {"path_text": 1, "deed_text": 1, "path_of_text": 1, "deed_of_text": 1},
}

# Those that are handed by their names alone, with what they are where they are left out.
NAMED = {"walks.right_walk": {"late": True}, "walks.Walker.begin": {"late": True}, "answers.answers": {"within": ()},
         "differ.difference": {"costs": (1, 1, 1)}, "grove.Grove.visit": {"late": True}, "desk.Desk.run": {"tell": None}}

VALUES = {
    "trees": {"SIZE": 60, "DEPTH": 12, "SIGNS": 8},
    "tied": {"TIED": 1000},
    "walks": {"ORDERS": ("ahead", "behind", "levels", "leaves"), "WALKS": 8},
    "patterns": {"WAYS": ("kid", "beneath", "next", "later", "above", "over"), "PATTERNS": 8, "TESTS": 16, "MARKS": 2},
    "standing": {"QUESTIONS": 8, "STORY": 20},
    "costs": {"COST": 100, "NEAR": 12},
    "differ": {"EVEN": (1, 1, 1)},
    "drawing": {"WIDE": 600},
    "grove": {"KINDS": ("plain", "handles", "lasting", "flat", "tied"), "TREES": 8, "VISITS": 200},
}

# How many arguments each method takes besides its own object.
METHODS = {
    "makes.Make": {"__init__": 1, "value": 0, "do": 1, "hear": 1, "do_all": 1, "part": 1, "tag": 1, "many": 1, "has": 1,
                   "size": 0, "depth": 0, "__len__": 0, "__eq__": 1, "__str__": 0},
    "makes.Hearer": {"heard": 2, "settle": 0},
    "handles.HandleTree": {"handle_of": 1, "path_of": 1, "above": 1, "below": 1, "tag_by": 1, "handles": 0, "given": 0,
                           "acts": 0, "gone": 0, "by_paths": 1, "do_by": 1},
    "lasting.LastingTree": {"edition": 1, "editions": 0, "go_to": 1, "knots": 1, "shared": 2},
    "flat.FlatTree": {"flat": 0, "span": 1},
    "tiedtree.TiedTree": {"tie": 1},
    "keeping.Keeper": {"__init__": 1, "keep": 1, "where": 1, "let_go": 1, "tickets": 0, "takes": 0, "__len__": 0, "back": 0,
                       "deeds_heard": 0, "can_back": 0, "watch": 1},
    "walks.Walker": {"__init__": 1, "begin": 2, "onward": 1, "shown": 1, "left": 1, "story": 1, "leave": 1, "__len__": 0,
                     "__str__": 0},
    "standing.Standing": {"__init__": 1, "ask": 1, "drop": 1, "answers_of": 1, "pattern_of": 1, "questions": 0, "__len__": 0,
                          "do": 1, "do_all": 1, "story": 0, "make": 0, "__str__": 0},
    "counts.Counts": {"__init__": 1, "size_at": 1, "height_at": 1, "number_of": 1, "kth": 1, "common": 1, "tags": 0,
                      "of_tag": 1, "levels": 0, "leaves": 0, "paper": 0},
    "grove.Grove": {"__init__": 0, "begin": 3, "drop": 1, "names": 0, "kind": 1, "told": 1, "do": 2, "do_all": 2, "back": 1,
                    "keep": 2, "where": 2, "size_at": 2, "kth": 2, "find": 2, "difference": 2, "join": 5, "visit": 4, "log": 0,
                    "__len__": 0, "__eq__": 1, "__str__": 0},
    "desk.Desk": {"__init__": 1, "say": 1, "run": 2, "is_busy": 0, "log": 0},
}

HEARERS = ("keeping.Keeper", "walks.Walker", "standing.Standing", "counts.Counts")
BENEATH_MAKE = ("handles.HandleTree", "lasting.LastingTree", "flat.FlatTree", "tiedtree.TiedTree")


def module(name):
    return importlib.import_module(f"treelore.{name}")


def found(place):
    """What stands at a place, as a file's name and the names behind it."""
    file, *names = place.split(".")
    thing = module(file)
    for name in names:
        thing = vars(thing)[name]
    return thing


class InterfaceTest(unittest.TestCase):
    def test_functions(self):
        for file, names in FUNCTIONS.items():
            for name, many in names.items():
                function = getattr(module(file), name)
                self.assertEqual(len(inspect.signature(function).parameters), many, name)

    def test_methods_stand_in_their_own_class(self):
        for place, names in METHODS.items():
            file, kind = place.split(".")
            body = vars(getattr(module(file), kind))
            for name, many in names.items():
                self.assertIn(name, body, place)
                self.assertEqual(len(inspect.signature(body[name]).parameters), many + 1, (place, name))

    def test_arguments_handed_by_their_names(self):
        for place, told in NAMED.items():
            given = inspect.signature(found(place)).parameters.values()
            named = {one.name: one.default for one in given if one.kind == inspect.Parameter.KEYWORD_ONLY}
            self.assertEqual(named, told, place)

    def test_values(self):
        for file, values in VALUES.items():
            for name, value in values.items():
                self.assertEqual(repr(getattr(module(file), name)), repr(value), name)

    def test_what_stands_beneath_what(self):
        for place in HEARERS:
            self.assertTrue(issubclass(found(place), found("makes.Hearer")), place)
        for place in BENEATH_MAKE:
            self.assertTrue(issubclass(found(place), found("makes.Make")), place)


if __name__ == "__main__":
    unittest.main()
