"""Tags, trees and paths: [2], [3], [5], [6]."""

import unittest

from tests.model import knobs_of, knob_of, tree_of, knob_at
from tests.refusals import RefusalChecks
from tests.samples import ODDITIES, SAMPLES, SMALL, fan, leaf, line, stair, very_many
from treelore.trees import DEPTH, SIGNS, SIZE, depth_of, has_place, is_path, is_tag, is_tree
from treelore.trees import part_of, places_of, size_of


class FormTest(unittest.TestCase):
    def test_bounds(self):
        self.assertEqual((SIZE, DEPTH, SIGNS), (60, 12, 8))

    def test_tags(self):
        for tag in ("a", "z", "az", "abcdefgh", "zzzzzzzz"):
            self.assertIs(is_tag(tag), True)
        for thing in ("", "abcdefghi", "A", "aB", "a1", "a ", " a", "a\n", "a-b", "`", "{", "@", "_", "a" * 10000):
            self.assertIs(is_tag(thing), False, thing)

    def test_trees(self):
        for tree in SAMPLES + [fan(60), line(12)]:
            self.assertIs(is_tree(tree), True)

    def test_trees_at_the_bounds(self):
        self.assertTrue(is_tree(fan(60)))
        self.assertFalse(is_tree(fan(61)))
        self.assertTrue(is_tree(line(12)))
        self.assertFalse(is_tree(line(13)))
        self.assertTrue(is_tree(stair(12)))
        self.assertFalse(is_tree(stair(13)))
        deep = ("a", (line(11), fan(48)))
        self.assertTrue(is_tree(deep))
        self.assertFalse(is_tree(("a", (line(11), fan(49)))))
        self.assertFalse(is_tree(("a", (line(12), leaf()))))
        self.assertFalse(is_tree(("a", (leaf(), leaf(), line(12)))))
        self.assertTrue(is_tree(("abcdefgh", (leaf("a"),))))
        self.assertFalse(is_tree(("abcdefghi", ())))
        self.assertFalse(is_tree(("a", (leaf(""),))))

    def test_no_trees_down_to_the_innermost(self):
        inner = [["b", ()], ("b", []), ("b",), ("b", (), ()), "b", (), None, True, 0, {}, ("B", ()), (None, ()), (b"b", ()),
                 ("b", None), ("b", "cd"), ("b", ("c",)), ("b", {})]
        for thing in inner:
            self.assertIs(is_tree(thing), False, thing)
            self.assertIs(is_tree(("a", (thing,))), False, thing)
            self.assertIs(is_tree(("a", (leaf(), ("c", (leaf(), thing))))), False, thing)
        self.assertFalse(is_tree(("a", [leaf()])))

    def test_paths(self):
        for path in ((), (0,), (59,), (0, 59, 3), (0,) * 11, (59,) * 11):
            self.assertIs(is_path(path), True, path)
        for thing in ((0,) * 12, (-1,), (60,), (0, 60), (0, -1), (True,), (0, False), (None,), ("0",), ([],), ((),),
                      [], [0], None, 0, "", "0", {}, (10 ** 59,), (0,) * 100000):
            self.assertIs(is_path(thing), False)

    def test_oddities_are_none(self):
        for thing in ODDITIES:
            self.assertIs(is_tag(thing), False)
            self.assertIs(is_tree(thing), False)
            self.assertIs(is_path(thing), False)

    def test_what_is_very_large_is_answered_at_once(self):
        for thing in (very_many(58), very_many(58, list), ("a", (very_many(10),) * 10 ** 6), ("a", (leaf(),) * 10 ** 6)):
            self.assertIs(is_tree(thing), False)
            self.assertIs(is_path(thing), False)
            self.assertIs(is_tag(thing), False)
        wide = ()
        for _ in range(58):
            wide = (wide,) * 60
        self.assertIs(is_path(wide), False)
        self.assertIs(is_tree(("a", wide)), False)
        self.assertIs(is_tree((wide, wide)), False)


class PlaceTest(RefusalChecks, unittest.TestCase):
    def test_size_and_depth(self):
        for tree, size, depth in ((leaf(), 1, 1), (line(12), 12, 12), (fan(60), 60, 2), (SMALL, 10, 4)):
            self.assertEqual((size_of(tree), depth_of(tree)), (size, depth))
        self.assertEqual(depth_of(("a", (leaf(), line(3), leaf()))), 4)

    def test_places_in_their_order(self):
        self.assertEqual(places_of(leaf()), [()])
        told = [(), (0,), (0, 0), (0, 1), (0, 1, 0), (1,), (2,), (2, 0), (2, 1), (2, 2)]
        self.assertEqual(places_of(SMALL), told)
        self.assertEqual(places_of(fan(60)), [()] + [(at,) for at in range(59)])
        self.assertEqual(places_of(line(12))[-1], (0,) * 11)
        for tree in SAMPLES:
            self.assertEqual(places_of(tree), sorted(path for path, _ in knobs_of(knob_of(tree))))

    def test_a_part_at_each_place(self):
        for tree in SAMPLES + [fan(60), line(12)]:
            for path in places_of(tree):
                self.assertIs(has_place(tree, path), True)
                self.assertEqual(part_of(tree, path), tree_of(knob_at(knob_of(tree), path)))

    def test_no_place(self):
        for path in ((3,), (1, 0), (0, 2), (0, 1, 1), (0, 1, 0, 0), (59,), (2, 3), (0,) * 11, (1, 59)):
            self.assertIs(has_place(SMALL, path), False)
            self.refused(("NoPlace", path), part_of, SMALL, path)

    def test_refusals_in_their_order(self):
        for thing in ODDITIES:
            for call in (size_of, depth_of, places_of):
                self.refused(("NoTree",), call, thing)
            for call in (has_place, part_of):
                self.refused(("NoTree",), call, thing, ())
                self.refused(("NoTree",), call, thing, thing)
                self.refused(("NoPath",), call, SMALL, thing)

    def test_places_told_are_new_each_time(self):
        places = places_of(SMALL)
        places.clear()
        self.assertEqual(len(places_of(SMALL)), 10)
        self.assertIsInstance(places_of(SMALL), list)


if __name__ == "__main__":
    unittest.main()
