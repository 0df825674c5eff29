"""Deeds: their form [7], when they fit, and what done tells [8]."""

import unittest

from tests.model import every_deed, judged, why_not
from tests.refusals import RefusalChecks, refusal_of, told_of
from tests.samples import ODDITIES, SAMPLES, SMALL, deed_row, fan, leaf, line, very_many
from treelore import errors
from treelore.deeds import done, is_deed
from treelore.trees import is_tree

FORMS = [
    ("name", (0,), "ab"), ("put", (0,), 1, leaf()), ("out", (0,)), ("move", (0,), (1,), 2), ("swap", (0,), (1,)),
    ("wrap", (0,), 1, 2, "ab"), ("unwrap", (0,)),
]
# What may stand at a place of a deed besides what stands there in FORMS.
OTHERS = {
    "path": ((), (59,), (0,) * 11), "number": (0, 60), "tag": ("a", "abcdefgh"), "tree": (fan(60), line(12)),
}
NONE = {
    "path": ([0], (60,), (-1,), (True,), (0,) * 12, None, 0, "/0", {}, (None,)),
    "number": (-1, 61, True, False, None, "1", 10 ** 59, (), [1]),
    "tag": ("", "abcdefghi", "A", None, 1, ["a"], True),
    "tree": (fan(61), line(13), "a", ["a", ()], ("a", []), None, very_many(), very_many(58, list)),
}
KINDS = {
    "name": ("path", "tag"), "put": ("path", "number", "tree"), "out": ("path",), "move": ("path", "path", "number"),
    "swap": ("path", "path"), "wrap": ("path", "number", "number", "tag"), "unwrap": ("path",),
}


class FormTest(unittest.TestCase):
    def test_the_seven(self):
        for deed in FORMS:
            self.assertIs(is_deed(deed), True, deed)

    def test_each_thing_in_a_deed(self):
        for deed in FORMS:
            for at, kind in enumerate(KINDS[deed[0]], start=1):
                for thing in OTHERS[kind]:
                    self.assertIs(is_deed(deed[:at] + (thing,) + deed[at + 1:]), True, (deed, thing))
                for thing in NONE[kind]:
                    self.assertIs(is_deed(deed[:at] + (thing,) + deed[at + 1:]), False)

    def test_too_few_and_too_many_things(self):
        for deed in FORMS:
            self.assertFalse(is_deed(deed[:-1]))
            self.assertFalse(is_deed(deed + (0,)))
            self.assertFalse(is_deed(deed + ((),)))
            self.assertFalse(is_deed(list(deed)))

    def test_words(self):
        for deed in FORMS:
            for word in ("", "NAME", "nam", "names", deed[0] + " ", deed[0].upper(), None, 0, True, (), [], {},
                         (deed[0],), very_many()):
                self.assertIs(is_deed((word,) + deed[1:]), False)

    def test_form_alone_decides(self):
        for deed in (("out", ()), ("unwrap", ()), ("move", (), (), 0), ("move", (0,), (0, 1), 60),
                     ("swap", (), ()), ("swap", (0,), (0, 0)), ("wrap", (5,), 60, 60, "a")):
            self.assertIs(is_deed(deed), True, deed)

    def test_oddities_are_none(self):
        for thing in ODDITIES + [(), 0, "", "out", ("out",)]:
            self.assertIs(is_deed(thing), False)


class DoneTest(RefusalChecks, unittest.TestCase):
    def test_every_deed_of_small_trees(self):
        for tree in SAMPLES:
            for deed in every_deed(tree):
                why = why_not(tree, deed)
                if why is None:
                    self.assertEqual(done(tree, deed), judged(tree, deed)[0], (tree, deed))
                else:
                    self.assertEqual(told_of(refusal_of(done, tree, deed)), why, (tree, deed))

    def test_rows_of_deeds(self):
        for seed in range(6):
            tree = SAMPLES[seed % len(SAMPLES)]
            for deed in deed_row(tree, 25, seed):
                behind = done(tree, deed)
                self.assertEqual(behind, judged(tree, deed)[0])
                self.assertTrue(is_tree(behind))
                tree = behind

    def test_told_ones(self):
        tree = ("a", (leaf("b"), ("c", (leaf("d"), leaf("e"))), leaf("f")))
        for deed, behind in (
            (("name", (), "x"), ("x", tree[1])),
            (("name", (1, 1), "x"), ("a", (leaf("b"), ("c", (leaf("d"), leaf("x"))), leaf("f")))),
            (("put", (), 3, leaf("x")), ("a", tree[1] + (leaf("x"),))),
            (("put", (1,), 0, leaf("x")), ("a", (leaf("b"), ("c", (leaf("x"), leaf("d"), leaf("e"))), leaf("f")))),
            (("put", (0,), 0, leaf("x")), ("a", (("b", (leaf("x"),)),) + tree[1][1:])),
            (("out", (0,)), ("a", tree[1][1:])),
            (("out", (1,)), ("a", (leaf("b"), leaf("f")))),
            (("out", (1, 1)), ("a", (leaf("b"), ("c", (leaf("d"),)), leaf("f")))),
            (("move", (0,), (1,), 1), ("a", (("c", (leaf("d"), leaf("b"), leaf("e"))), leaf("f")))),
            (("move", (0,), (), 2), ("a", tree[1][1:] + (leaf("b"),))),
            (("move", (2,), (), 0), ("a", (leaf("f"),) + tree[1][:2])),
            (("move", (1, 0), (), 1), ("a", (leaf("b"), leaf("d"), ("c", (leaf("e"),)), leaf("f")))),
            (("swap", (0,), (1,)), ("a", (tree[1][1], leaf("b"), leaf("f")))),
            (("swap", (1, 1), (0,)), ("a", (leaf("e"), ("c", (leaf("d"), leaf("b"))), leaf("f")))),
            (("wrap", (), 0, 3, "x"), ("a", (("x", tree[1]),))),
            (("wrap", (), 1, 1, "x"), ("a", (leaf("b"), ("x", (tree[1][1],)), leaf("f")))),
            (("wrap", (), 3, 0, "x"), ("a", tree[1] + (leaf("x"),))),
            (("wrap", (2,), 0, 0, "x"), ("a", tree[1][:2] + (("f", (leaf("x"),)),))),
            (("unwrap", (1,)), ("a", (leaf("b"), leaf("d"), leaf("e"), leaf("f")))),
            (("unwrap", (0,)), ("a", tree[1][1:])),
        ):
            self.assertEqual(done(tree, deed), behind, deed)

    def test_no_tree_then_no_deed(self):
        for thing in ODDITIES:
            self.refused(("NoTree",), done, thing, ("out", (0,)))
            self.refused(("NoTree",), done, thing, thing)
            self.refused(("NoDeed",), done, leaf(), thing)

    def test_no_place_names_the_first_path_that_is_none(self):
        for word in ("move", "swap"):
            rest = (0,) if word == "move" else ()
            self.refused(("NoPlace", (5,)), done, SMALL, (word, (5,), (6,)) + rest)
            self.refused(("NoPlace", (6,)), done, SMALL, (word, (0,), (6,)) + rest)
            self.refused(("NoPlace", (6,)), done, SMALL, (word, (), (6,)) + rest)
            self.refused(("NoPlace", (5,)), done, SMALL, (word, (5,), ()) + rest)
            self.refused(("NoPlace", (1, 0)), done, SMALL, (word, (1,), (1, 0)) + rest)
        for deed in (("name", (3,), "a"), ("put", (3,), 60, fan(60)), ("out", (3,)), ("wrap", (3,), 60, 60, "a"),
                     ("unwrap", (3,))):
            self.refused(("NoPlace", (3,)), done, SMALL, deed)

    def test_root(self):
        for deed in (("out", ()), ("unwrap", ()), ("move", (), (), 0), ("move", (), (0,), 60), ("swap", (), ()),
                     ("swap", (), (0,)), ("swap", (0,), ())):
            self.refused(("Root", ()), done, SMALL, deed)

    def test_within_tells_the_second_path(self):
        for deed in (("move", (0,), (0,), 60), ("move", (0,), (0, 1, 0), 0), ("swap", (0,), (0,)),
                     ("swap", (0,), (0, 1)), ("swap", (0, 1, 0), (0,))):
            self.refused(("Within", deed[2]), done, SMALL, deed)

    def test_at_beyond_the_kids(self):
        for deed, path in (
            (("put", (), 4, fan(60)), (4,)), (("put", (1,), 60, leaf()), (1, 60)), (("put", (0, 1), 2, leaf()), (0, 1, 2)),
            (("move", (0,), (), 3), (3,)), (("move", (0,), (2,), 4), (2, 4)), (("move", (2, 0), (2,), 3), (2, 3)),
            (("move", (0, 0), (), 4), (4,)),
            (("wrap", (), 4, 0, "a"), (4,)), (("wrap", (), 0, 4, "a"), (4,)), (("wrap", (2,), 60, 60, "a"), (2, 120)),
            (("wrap", (1,), 0, 1, "a"), (1, 1)),
        ):
            self.refused(("NoPlace", path), done, SMALL, deed)
        far = (0,) * 11
        self.refused(("NoPlace", far + (1,)), done, line(12), ("put", far, 1, leaf()))

    def test_too_many(self):
        self.assertEqual(done(fan(59), ("put", (), 0, leaf("b"))), fan(60))
        self.refused(("TooMany", 61), done, fan(60), ("put", (), 0, leaf()))
        self.refused(("TooMany", 61), done, fan(60), ("wrap", (), 0, 0, "a"))
        self.refused(("TooMany", 120), done, fan(60), ("put", (3,), 0, fan(60)))
        self.refused(("TooMany", 72), done, fan(60), ("put", (3,), 0, line(12)))
        self.assertEqual(done(fan(59), ("wrap", (), 0, 58, "c")), ("a", (("c", fan(59)[1]),)))

    def test_too_deep(self):
        deep = line(11)
        self.assertEqual(done(deep, ("put", (0,) * 10, 0, leaf())), line(12))
        self.refused(("TooDeep", 13), done, line(12), ("put", (0,) * 11, 0, leaf()))
        self.refused(("TooDeep", 13), done, line(12), ("wrap", (), 0, 1, "a"))
        self.refused(("TooDeep", 24), done, line(12), ("put", (0,) * 11, 0, line(12)))
        self.refused(("TooDeep", 13), done, line(12), ("wrap", (0,) * 11, 0, 0, "a"))
        two = ("a", (line(6), line(7)))
        self.refused(("TooDeep", 14), done, two, ("move", (0,), (1, 0, 0, 0, 0, 0, 0), 0))
        self.assertEqual(done(two, ("move", (0,), (1, 0, 0, 0, 0), 0))[1][0][0], "a")
        swap = ("a", (line(11), ("a", (line(3),))))
        self.refused(("TooDeep", 13), done, swap, ("swap", (0,), (1, 0)))

    def test_too_many_goes_first(self):
        self.refused(("TooMany", 71), done, ("a", (line(11), fan(48))), ("put", (0,) * 11, 0, line(11)))

    def test_the_root_can_be_named_put_into_and_wrapped(self):
        self.assertEqual(done(leaf(), ("name", (), "z")), leaf("z"))
        self.assertEqual(done(leaf(), ("put", (), 0, leaf("b"))), ("a", (leaf("b"),)))
        self.assertEqual(done(leaf(), ("wrap", (), 0, 0, "b")), ("a", (leaf("b"),)))

    def test_heads(self):
        self.assertIsInstance(refusal_of(done, 0, 0), errors.NoThing)
        self.assertIsInstance(refusal_of(done, leaf(), 0), errors.NoThing)
        self.assertIsInstance(refusal_of(done, leaf(), ("out", ())), errors.NoFit)
        self.assertIsInstance(refusal_of(done, leaf(), ("out", (0,))), errors.NoFit)


if __name__ == "__main__":
    unittest.main()
