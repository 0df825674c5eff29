"""The interface: names, arguments, and methods that stand in the body of their own class."""

import importlib
import inspect
import unittest

FUNCTIONS = {
    "trees": {"is_tag": 1, "is_tree": 1, "is_path": 1, "size_of": 1, "depth_of": 1, "has_place": 2, "part_of": 2,
              "places_of": 1},
    "deeds": {"is_deed": 1, "done": 2},
    "leading": {"led": 3, "deed_back": 2, "all_done": 2},
    "sending": {"text_of": 1, "sent_numbers": 1, "tree_in": 1, "tree_of_numbers": 1, "span": 2, "span_of_numbers": 2},
    "flat": {"is_flat": 1, "flat_of": 1, "tree_of_flat": 1},
}

# How many arguments each method takes besides its own object.
METHODS = {
    "makes.Make": {"__init__": 1, "value": 0, "do": 1, "hear": 1, "do_all": 1, "part": 1, "tag": 1, "many": 1, "has": 1,
                   "size": 0, "depth": 0, "__len__": 0, "__eq__": 1, "__str__": 0},
    "makes.Hearer": {"heard": 2, "settle": 0},
    "handles.HandleTree": {"handle_of": 1, "path_of": 1, "above": 1, "below": 1, "tag_by": 1, "handles": 0, "given": 0,
                           "acts": 0, "gone": 0, "by_paths": 1, "do_by": 1},
    "lasting.LastingTree": {"edition": 1, "editions": 0, "go_to": 1, "knots": 1, "shared": 2},
    "flat.FlatTree": {"flat": 0, "span": 1},
}


def module(name):
    return importlib.import_module(f"treelore.{name}")


class InterfaceTest(unittest.TestCase):
    def test_functions(self):
        for file, names in FUNCTIONS.items():
            for name, many in names.items():
                function = getattr(module(file), name)
                self.assertEqual(len(inspect.signature(function).parameters), many, name)

    def test_methods_stand_in_their_own_class(self):
        for place, names in METHODS.items():
            file, kind = place.split(".")
            body = vars(getattr(module(file), kind))
            for name, many in names.items():
                self.assertIn(name, body, place)
                self.assertEqual(len(inspect.signature(body[name]).parameters), many + 1, (place, name))


if __name__ == "__main__":
    unittest.main()
