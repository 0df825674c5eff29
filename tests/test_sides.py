"""Edits, sides and the tree to which a side leads [51], the side of a top matching [55]."""

import itertools
import unittest

from tests.grown import Mixer, mixed_tree, retagged, shapes
from tests.refusals import RefusalChecks, refusal_of
from tests.samples import ODDITIES, SAMPLES, SMALL, fan, leaf, line, stair, very_many
from tests.sidelong import mixed_side, plain_led
from tests.test_matching import all_matchings, plainly_top
from treelore import errors
from treelore.matching import top_matching
from treelore.sides import check_side, is_side, led_by_side, place_led, side_of
from treelore.trees import is_tree, part_of, places_of

X, Y = leaf("x"), ("y", (leaf("z"),))
# Of SMALL, "a(b(c,d(e)),f,g(h,i,j))".
SIDE = (("name", (), "r"), ("put", (), 0, (X, Y)), ("put", (), 3, (X,)), ("name", (0,), "s"), ("out", (0, 1)),
        ("put", (1,), 0, (Y,)), ("name", (2,), "t"), ("out", (2, 0)), ("put", (2, 1), 0, (X,)), ("out", (2, 2)))


class IsSideTest(RefusalChecks, unittest.TestCase):
    def right(self, tree, side):
        self.assertIs(is_side(tree, side), True, side)
        self.assertIsNone(check_side(tree, side))

    def wrong(self, at, tree, thing):
        self.assertIs(is_side(tree, thing), False)
        for call in (check_side, led_by_side):
            self.refused(("NoSide", at), call, tree, thing)
        self.refused(("NoSide", at), place_led, tree, thing, None)

    def test_right_ones(self):
        self.right(SMALL, SIDE)
        self.right(leaf(), ())
        for at in range(len(SIDE)):
            self.right(SMALL, SIDE[:at])
            self.right(SMALL, SIDE[:at] + SIDE[at + 1:])
        # A place may have the tag already; a put may stand beside what is taken out.
        self.right(SMALL, (("name", (), "a"), ("put", (), 0, (X,)), ("put", (), 1, (X,)), ("out", (0,))))

    def test_each_edit_bent(self):
        for at, edit in enumerate(SIDE):
            bents = [list(edit), edit[:-1], edit + (0,), ("fell",) + edit[1:], (None,) + edit[1:], None, (), "out",
                     (edit[0], list(edit[1])) + edit[2:], (edit[0], edit[1] + (9,)) + edit[2:], (edit[0],), ("out", ()),
                     (edit[0], (7,)) + edit[2:], (edit[0], None) + edit[2:], (very_many(), edit[1]) + edit[2:]]
            if edit[1] != ():
                bents.append((edit[0], edit[1][:-1] + (True,)) + edit[2:])
            if edit[0] == "name":
                bents += [("name", edit[1], tag) for tag in ("", "R", "toolongtag", None, 0, ["r"], very_many())]
            if edit[0] == "put":
                many = len(part_of(SMALL, edit[1])[1])
                bents += [("put", edit[1], seat, edit[3]) for seat in (many + 1, -1, True, None, "0", 10 ** 59)]
                rows = [(), list(edit[3]), edit[3] + (None,), (None,) + edit[3], edit[3][0], (very_many(),), None, X,
                        ((list(X)),), (("x", []),), edit[3] + (fan(61),), (line(13),)]
                bents += [("put", edit[1], edit[2], row) for row in rows]
            for bent in bents:
                self.wrong(at, SMALL, SIDE[:at] + (bent,) + SIDE[at + 1:])

    def test_edits_that_do_not_rise(self):
        for at in range(1, len(SIDE)):
            self.wrong(at, SMALL, SIDE[:at] + (SIDE[at - 1],) + SIDE[at:])
            self.wrong(at, SMALL, SIDE[:at - 1] + (SIDE[at], SIDE[at - 1]) + SIDE[at + 1:])

    def test_twice(self):
        self.wrong(1, SMALL, (("name", (0,), "s"), ("name", (0,), "t")))
        self.wrong(1, SMALL, (("out", (0,)), ("out", (0,))))
        self.wrong(1, SMALL, (("put", (0,), 1, (X,)), ("put", (0,), 1, (Y,))))
        self.right(SMALL, (("put", (0,), 1, (X,)), ("put", (0,), 2, (X,))))

    def test_within_what_is_taken_out(self):
        self.wrong(1, SMALL, (("name", (0,), "s"), ("out", (0,))))
        self.wrong(1, SMALL, (("out", (0,)), ("put", (0,), 0, (X,))))
        for inner in (("name", (0, 1), "s"), ("out", (0, 1)), ("put", (0, 1), 0, (X,)), ("name", (0, 1, 0), "s")):
            self.wrong(1, SMALL, (("out", (0,)), inner))
            self.wrong(2, SMALL, (("name", (), "z"), ("out", (0,)), inner, ("out", (1,))))
        self.right(SMALL, (("out", (0,)), ("out", (1,)), ("name", (2,), "s")))

    def test_the_base_itself_stays(self):
        self.wrong(0, SMALL, (("out", ()),))
        self.wrong(1, SMALL, (("name", (), "z"), ("out", ())))

    def test_bounds_behind_all_of_it(self):
        self.right(fan(59), (("put", (), 0, (X,)),))
        self.wrong(None, fan(60), (("put", (), 0, (X,)),))
        self.wrong(None, fan(59), (("put", (), 0, (X, X)),))
        self.wrong(None, leaf(), (("put", (), 0, (leaf(),) * 60),))
        self.wrong(None, leaf(), (("put", (), 0, (fan(60),) * 3),))
        self.right(fan(60), (("put", (), 0, (X,)), ("out", (7,))))
        self.wrong(None, fan(60), (("put", (), 0, (X, X)), ("out", (7,))))
        self.right(line(11), (("put", (0,) * 10, 0, (X,)),))
        self.wrong(None, line(12), (("put", (0,) * 11, 0, (X,)),))
        self.wrong(None, line(11), (("put", (0,) * 10, 0, (Y,)),))
        # What is wrong in an edit comes ahead of what all come to.
        self.wrong(1, fan(60), (("put", (), 0, (X,)), ("out", (60,))))

    def test_anything(self):
        for thing in ODDITIES:
            at = 0 if isinstance(thing, tuple) and len(thing) > 0 else None
            self.wrong(at, SMALL, thing)
            self.wrong(0, SMALL, (thing,))
        self.wrong(None, SMALL, list(SIDE))
        self.wrong(1, SMALL, (SIDE[0], very_many(), SIDE[1]))

    def test_no_tree(self):
        for thing in ODDITIES:
            self.refused(("NoTree",), is_side, thing, None)
            self.refused(("NoTree",), check_side, thing, None)
            self.refused(("NoTree",), led_by_side, thing, None)
            self.refused(("NoTree",), place_led, thing, None, None)
            self.refused(("NoTree",), side_of, thing, SMALL, None)
            self.refused(("NoTree",), side_of, SMALL, thing, None)
        self.assertIsInstance(refusal_of(check_side, SMALL, None), errors.NoThing)


class LedTest(RefusalChecks, unittest.TestCase):
    def test_by_hand(self):
        behind = ("r", (X, Y, ("s", (leaf("c"),)), ("f", (Y,)), ("t", (("i", (X,)),)), X))
        self.assertEqual(led_by_side(SMALL, SIDE), behind)
        led = [place_led(SMALL, SIDE, path) for path in places_of(SMALL)]
        self.assertEqual(led, [(), (2,), (2, 0), None, None, (3,), (4,), None, (4, 0), None])

    def test_mixed_sides(self):
        for seed in range(150):
            tree = mixed_tree(seed, 1 + seed % 40)
            side = mixed_side(tree, Mixer(seed), seed % 23)
            behind, where = plain_led(tree, side)
            if is_tree(behind):
                self.assertTrue(is_side(tree, side))
                self.assertEqual(led_by_side(tree, side), behind)
                self.assertEqual({path: place_led(tree, side, path) for path in places_of(tree)}, where)
            else:
                self.refused(("NoSide", None), check_side, tree, side)

    def test_place_led_refusals(self):
        for thing in ODDITIES:
            self.refused(("NoPath",), place_led, SMALL, SIDE, thing)
        for path in ((3,), (0, 2), (1, 0)):
            self.refused(("NoPlace", path), place_led, SMALL, SIDE, path)
        self.refused(("NoSide", 0), place_led, SMALL, (("out", ()),), None)


class SideOfTest(RefusalChecks, unittest.TestCase):
    def check_side_of(self, one, other, matching):
        side = side_of(one, other, matching)
        self.assertTrue(is_side(one, side))
        self.assertEqual(led_by_side(one, side), other)
        partner = dict(matching)
        # What is in a pair is led to its other; what is taken out is in none.
        for path in places_of(one):
            self.assertEqual(place_led(one, side, path), partner.get(path))
        puts = [edit for edit in side if edit[0] == "put"]
        names = [edit for edit in side if edit[0] == "name"]
        outs = [edit for edit in side if edit[0] == "out"]
        self.assertEqual([edit[1] for edit in names], [path for path, place in matching
                                                       if part_of(one, path)[0] != part_of(other, place)[0]])
        self.assertEqual([edit[1] for edit in outs], [path for path in places_of(one)
                                                      if path not in partner and path[:-1] in partner])
        for edit in puts:
            # It stands right ahead of a kid that is in a pair, or behind the last kid.
            self.assertTrue(edit[2] == len(part_of(one, edit[1])[1]) or edit[1] + (edit[2],) in partner)

    def test_of_all_top_matchings_of_small_trees(self):
        some = [retagged(shape, number) for size in range(1, 5) for number, shape in enumerate(shapes(size))]
        for one, other in itertools.product(some, some):
            for matching in all_matchings(one, other):
                if plainly_top(matching):
                    self.check_side_of(one, other, matching)
                else:
                    self.refused(("NoMatching", "matching"), side_of, one, other, matching)

    def test_of_large_trees(self):
        trees = [mixed_tree(seed, 60) for seed in range(4)] + [mixed_tree(5, 60, deep=3), fan(60), stair(12), line(12), leaf("z")]
        for one, other in itertools.product(trees, trees):
            self.check_side_of(one, other, top_matching(one, other))
            self.check_side_of(one, other, (((), ()),))

    def test_by_hand(self):
        one = ("a", (leaf("b"), leaf("c"), leaf("d")))
        other = ("z", (X, leaf("c"), Y, X))
        self.assertEqual(side_of(one, other, (((), ()), ((1,), (1,)))),
                         (("name", (), "z"), ("put", (), 1, (X,)), ("put", (), 3, (Y, X)), ("out", (0,)), ("out", (2,))))

    def test_no_matching(self):
        for thing in ODDITIES:
            self.refused(("NoMatching", "matching"), side_of, SMALL, SMALL, thing)
        for tree in SAMPLES:
            self.assertEqual(side_of(tree, tree, top_matching(tree, tree)), ())


if __name__ == "__main__":
    unittest.main()
