"""Clashes [52], joined sides [53], sides carried over others [54], trees joined three ways [56]."""

import itertools
import unittest

from tests.grown import Mixer, mixed_tree, retagged, shapes
from tests.refusals import RefusalChecks, refusal_of, told_of
from tests.samples import ODDITIES, SMALL, fan, leaf, line
from tests.sidelong import first_plain_clash, key, mixed_side, plain_join, plain_led, within
from treelore import errors
from treelore.joining import carried, clash, joined_sides, three_ways
from treelore.matching import top_matching
from treelore.sides import is_side, led_by_side, place_led, side_of

X, Y = leaf("x"), ("y", (leaf("z"),))


class ClashTest(RefusalChecks, unittest.TestCase):
    def check_clash(self, wanted, one, other):
        self.assertEqual(clash(SMALL, one, other), wanted)
        turned = None if wanted is None else wanted[::-1]
        self.assertEqual(clash(SMALL, other, one), turned)
        for call in (joined_sides, carried):
            if wanted is None:
                call(SMALL, one, other)
            else:
                self.refused(("Clashing", *wanted), call, SMALL, one, other)

    def test_each_sort_of_two_edits(self):
        out = ("out", (0,))
        for edit in (("name", (0,), "s"), ("name", (0, 1), "s"), ("name", (0, 1, 0), "s"), ("put", (0,), 0, (X,)),
                     ("put", (0, 1), 1, (X,))):
            self.check_clash((0, 0), (out,), (edit,))
        for edit in (("name", (), "s"), ("name", (1,), "s"), ("put", (), 0, (X,)), ("put", (), 1, (X,)), out, ("out", (0, 1)),
                     ("out", (1,)), ("put", (1,), 0, (X,))):
            self.check_clash(None, (out,), (edit,))
        self.check_clash((0, 0), (("name", (0,), "s"),), (("name", (0,), "t"),))
        self.check_clash(None, (("name", (0,), "s"),), (("name", (0,), "s"),))
        self.check_clash(None, (("name", (0,), "s"),), (("name", (1,), "t"),))
        self.check_clash((0, 0), (("put", (0,), 1, (X,)),), (("put", (0,), 1, (X, X)),))
        self.check_clash(None, (("put", (0,), 1, (X, Y)),), (("put", (0,), 1, (X, Y)),))
        self.check_clash(None, (("put", (0,), 1, (X,)),), (("put", (0,), 2, (Y,)),))
        self.check_clash(None, (("name", (0,), "s"),), (("put", (0,), 2, (Y,)),))
        self.check_clash(None, (), ())

    def test_the_least_numbers(self):
        ours = (("name", (), "a"), ("name", (0,), "s"), ("put", (0,), 0, (X,)), ("out", (2,)))
        theirs = (("name", (1,), "k"), ("put", (2,), 1, (X,)), ("name", (2, 0), "s"))
        self.assertEqual(clash(SMALL, ours, theirs), (3, 1))
        self.assertEqual(clash(SMALL, ours, (("name", (), "b"),) + theirs), (0, 0))
        self.assertEqual(clash(SMALL, ours, (("out", (0,)),) + theirs), (1, 0))
        self.assertEqual(clash(SMALL, theirs, ours), (1, 3))

    def test_mixed_sides(self):
        found = 0
        for seed in range(120):
            tree, one, other = mixed_case(seed)
            wanted = first_plain_clash(one, other)
            self.assertEqual(clash(tree, one, other), wanted)
            if wanted is not None:
                found += 1
                refusal = refusal_of(joined_sides, tree, one, other)
                self.assertEqual(told_of(refusal), ("Clashing", *wanted))
        self.assertGreater(found, 20)

    def test_no_sides(self):
        calls = (clash, joined_sides, carried)
        for thing in ODDITIES:
            at = 0 if isinstance(thing, tuple) and len(thing) > 0 else None
            for call in calls:
                self.refused(("NoTree",), call, thing, None, None)
                self.refused(("NoSide", at), call, SMALL, thing, 7)
                self.refused(("NoSide", at), call, SMALL, (), thing)
        for call in calls:
            self.refused(("NoSide", 1), call, SMALL, (("name", (), "a"), ("out", ())), (("out", ()),))


def mixed_case(seed):
    """A tree and two sides of it."""
    mixer = Mixer(seed)
    tree = mixed_tree(seed, 2 + seed % 17)
    return tree, mixed_side(tree, mixer, 1 + seed % 7), mixed_side(tree, mixer, 1 + seed % 5)


def peaceful_cases(many):
    """Cases whose sides don't clash."""
    for seed in range(many):
        tree, one, other = mixed_case(seed)
        if first_plain_clash(one, other) is None:
            yield tree, one, other


class JoinedTest(RefusalChecks, unittest.TestCase):
    def test_mixed_sides(self):
        for tree, one, other in peaceful_cases(250):
            joined = joined_sides(tree, one, other)
            self.assertEqual(joined, plain_join(one, other))
            self.assertEqual(joined_sides(tree, other, one), joined)
            self.assertTrue(is_side(tree, joined))
            self.assertEqual(led_by_side(tree, joined), plain_led(tree, joined)[0])

    def test_by_hand(self):
        one = (("name", (), "r"), ("out", (0,)), ("put", (2,), 3, (X,)))
        other = (("name", (), "r"), ("put", (), 1, (Y,)), ("out", (0, 1)), ("out", (2, 0)))
        self.assertEqual(joined_sides(SMALL, one, other), (("name", (), "r"), ("put", (), 1, (Y,)), ("out", (0,)),
                                                           ("put", (2,), 3, (X,)), ("out", (2, 0))))
        self.assertEqual(joined_sides(SMALL, one, ()), one)
        self.assertEqual(joined_sides(SMALL, one, one), one)

    def test_beyond_the_bounds(self):
        base = fan(58)
        one, other = (("put", (), 0, (X, X)),), (("put", (), 1, (X,)), ("name", (3,), "t"))
        for call in (joined_sides, carried):
            self.refused(("TooMany", 61), call, base, one, other)
            self.refused(("TooMany", 61), call, base, other, one)
            self.refused(("Clashing", 1, 0), call, base, one + (("name", (3,), "s"),), other[1:])
        # Both clash and come beyond: the clash comes first.
        self.refused(("Clashing", 0, 0), joined_sides, base, one, (("put", (), 0, (X,)), ("put", (), 1, (X,))))
        self.assertIsNone(clash(base, one, other))
        self.assertTrue(joined_sides(base, one, (("out", (3,)),) + other[:0]))
        self.assertEqual(len(joined_sides(base, one, (("put", (), 1, (X,)), ("out", (5,))))), 3)

    def test_too_deep_never_by_both(self):
        # What is put hangs beneath what the other side can't have put: so both are as deep as one of them.
        base = line(11)
        one, other = (("put", (0,) * 10, 0, (X,)),), (("put", (0,) * 9, 0, (Y,)),)
        self.assertEqual(len(joined_sides(base, one, other)), 2)
        self.refused(("NoSide", None), joined_sides, base, one, (("put", (0,) * 10, 0, (Y,)),))


class CarriedTest(unittest.TestCase):
    def test_the_told_example(self):
        tree = ("a", (leaf("b"), leaf("c"), leaf("d")))
        one = (("out", (1,)),)
        other = (("put", (), 1, (leaf("y"),)), ("put", (), 2, (leaf("z"),)))
        self.assertEqual(carried(tree, one, other), (("put", (), 1, (leaf("y"), leaf("z"))),))
        # The other way round what is taken out stands behind y.
        self.assertEqual(carried(tree, other, one), (("out", (2,)),))

    def test_by_hand(self):
        one = (("name", (), "r"), ("put", (), 1, (X, X)), ("out", (0,)), ("put", (2,), 3, (X,)))
        other = (("name", (), "r"), ("put", (), 0, (Y,)), ("put", (), 2, (Y,)), ("put", (), 3, (Y,)), ("out", (0, 1)),
                 ("name", (1,), "s"), ("put", (2,), 0, (Y,)), ("out", (2, 0)), ("name", (2, 1), "t"))
        self.assertEqual(carried(SMALL, one, other),
                         (("put", (), 0, (Y,)), ("put", (), 3, (Y,)), ("put", (), 4, (Y,)), ("name", (2,), "s"),
                          ("put", (3,), 0, (Y,)), ("out", (3, 0)), ("name", (3, 1), "t")))

    def test_either_way_round(self):
        merged = 0
        for tree, one, other in peaceful_cases(400):
            both = led_by_side(tree, joined_sides(tree, one, other))
            for first, second in ((one, other), (other, one)):
                behind = led_by_side(tree, first)
                over = carried(tree, first, second)
                self.assertTrue(is_side(behind, over))
                self.assertEqual(led_by_side(behind, over), both)
                outs = [edit[1] for edit in first if edit[0] == "out"]
                left = [edit for edit in second if edit not in first
                        and not (edit[0] == "out" and any(within(edit[1], out) for out in outs))]
                plain = sorted([(word, place_led(tree, first, path)) + rest for word, path, *rest in
                                [(edit[0], edit[1], *edit[2:]) for edit in left if edit[0] != "put"]
                                for rest in [tuple(rest)]], key=key)
                self.assertEqual([edit for edit in over if edit[0] != "put"], plain)
                trees = [tree for edit in left if edit[0] == "put" for tree in edit[3]]
                self.assertEqual(sorted(tree for edit in over if edit[0] == "put" for tree in edit[3]), sorted(trees))
                merged += len(left) - len(over)
        self.assertGreater(merged, 0)

    def test_over_nothing_and_itself(self):
        for tree, one, other in peaceful_cases(60):
            self.assertEqual(carried(tree, (), one), one)
            self.assertEqual(carried(tree, one, ()), ())
            self.assertEqual(carried(tree, one, one), ())


class ThreeWaysTest(RefusalChecks, unittest.TestCase):
    def test_of_the_base_and_of_one_tree_twice(self):
        some = [retagged(shape, number) for size in range(1, 5) for number, shape in enumerate(shapes(size))]
        large = [mixed_tree(seed, 60) for seed in range(3)] + [fan(60), line(12), leaf("z")]
        for trees in (some, large):
            for base, tree in itertools.product(trees, trees):
                self.assertEqual(three_ways(base, base, tree), tree)
                self.assertEqual(three_ways(base, tree, base), tree)
                self.assertEqual(three_ways(base, tree, tree), tree)

    def test_as_its_sides(self):
        joined = clashes = 0
        some = [retagged(shape, number, tags=("a", "b", "c")) for size in range(2, 5)
                for number, shape in enumerate(shapes(size))]
        for base, ours, theirs in itertools.product(some[::2], some, some):
            sides = [side_of(base, tree, top_matching(base, tree)) for tree in (ours, theirs)]
            found = first_plain_clash(*sides)
            if found is not None:
                clashes += 1
                self.refused(("Clashing", *found), three_ways, base, ours, theirs)
                self.refused(("Clashing", *first_plain_clash(*sides[::-1])), three_ways, base, theirs, ours)
            else:
                joined += 1
                both = plain_led(base, plain_join(*sides))[0]
                self.assertEqual(three_ways(base, ours, theirs), both)
                self.assertEqual(three_ways(base, theirs, ours), both)
        self.assertTrue(joined and clashes)

    def test_by_hand(self):
        base = ("a", (leaf("b"), ("c", (leaf("d"), leaf("e")))))
        ours = ("a", (leaf("z"), ("c", (leaf("d"), leaf("e"), leaf("f")))))
        theirs = ("q", (leaf("b"), ("c", (leaf("e"),))))
        self.assertEqual(three_ways(base, ours, theirs), ("q", (leaf("z"), ("c", (leaf("e"), leaf("f"))))))
        self.refused(("Clashing", 0, 0), three_ways, leaf("a"), leaf("b"), leaf("c"))

    def test_beyond_the_bounds(self):
        base = ("a", (leaf("b"), leaf("c")))
        ours = ("a", (leaf("b"), ("c", (leaf("x"),) * 40)))
        theirs = ("a", (("b", (leaf("y"),) * 40), leaf("c")))
        self.refused(("TooMany", 83), three_ways, base, ours, theirs)
        self.refused(("Clashing", 0, 0), three_ways, base, ("q", ours[1]), ("r", theirs[1]))
        self.assertIsInstance(refusal_of(three_ways, base, ours, theirs), errors.NoFit)

    def test_no_trees(self):
        for thing in ODDITIES:
            self.refused(("NoTree",), three_ways, thing, SMALL, SMALL)
            self.refused(("NoTree",), three_ways, SMALL, thing, SMALL)
            self.refused(("NoTree",), three_ways, SMALL, SMALL, thing)


if __name__ == "__main__":
    unittest.main()
