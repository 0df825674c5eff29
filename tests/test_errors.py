"""The classes of refusals: their heads and fields."""

import unittest

from treelore import errors

NO_FIELDS = ("NoTree", "NoTag", "NoPath", "NoDeed", "NoTie", "NoText", "NoNumbers", "NoRows", "NoFlat", "NoLines")
WHAT = ("NoCount", "NoPattern", "NoTest", "NoWay", "NoAnswer", "NoCosts", "NoMatching", "NoKind")

FIELDS = {
    "NoThing": {
        **{name: () for name in NO_FIELDS},
        **{name: ("what",) for name in WHAT},
        "NoHandle": ("handle",), "NoTicket": ("ticket",), "NoOrder": ("how",), "NoSide": ("at",),
    },
    "NoFit": {
        "NoEdition": ("number",), "NoWalk": ("number",), "NoKth": ("number",), "NoQuestion": ("number",),
        "NoPlace": ("path",), "Root": ("path",), "Within": ("path",),
        "TooMany": ("count",), "TooDeep": ("count",), "NoItem": ("at",),
        "Gone": ("handle", "deed"), "Taken": ("ticket", "deed"), "Clashing": ("ours", "theirs"),
        "Planted": ("name",), "NoName": ("name",), "NothingBack": (), "Heard": (),
    },
    "Cut": {"Stopped": ("at",), "Torn": ("at",), "NoRow": ("at",), "Busy": ()},
}


class ErrorsTest(unittest.TestCase):
    def test_heads(self):
        self.assertTrue(issubclass(errors.TreeError, ValueError))
        for head in FIELDS:
            self.assertEqual(getattr(errors, head).__bases__, (errors.TreeError,))

    def test_each_class_stands_right_beneath_its_head(self):
        for head, names in FIELDS.items():
            for name in names:
                self.assertEqual(getattr(errors, name).__bases__, (getattr(errors, head),), name)

    def test_fields_in_their_order(self):
        for names in FIELDS.values():
            for name, fields in names.items():
                things = [["thing", number] for number in range(len(fields))]
                refusal = getattr(errors, name)(*things)
                self.assertEqual(vars(refusal), dict(zip(fields, things)), name)

    def test_a_refusal_is_made_with_its_fields_and_no_others(self):
        for names in FIELDS.values():
            for name, fields in names.items():
                if fields:
                    with self.assertRaises(TypeError, msg=name):
                        getattr(errors, name)(*fields, 1)
                    with self.assertRaises(TypeError, msg=name):
                        getattr(errors, name)(*fields[1:])

    def test_there_are_no_others(self):
        told = {"TreeError", *FIELDS, *[name for names in FIELDS.values() for name in names]}
        self.assertEqual({name for name, thing in vars(errors).items() if isinstance(thing, type)}, told)


if __name__ == "__main__":
    unittest.main()
