"""A flat make: flat rows [17], spans and the make [18]."""

import unittest

from tests.model import fitting, judged, knob_of, knobs_of
from tests.refusals import RefusalChecks, refusal_of
from tests.samples import ODDITIES, SAMPLES, SMALL, deed_row, fan, leaf, line, very_many
from treelore import errors
from treelore.flat import FlatTree, flat_of, is_flat, tree_of_flat
from treelore.trees import places_of

SMALL_ROW = ((0, "a"), (1, "b"), (2, "c"), (2, "d"), (3, "e"), (1, "f"), (1, "g"), (2, "h"), (2, "i"), (2, "j"))


def row_by_knobs(tree):
    return tuple((len(path), knob.tag) for path, knob in knobs_of(knob_of(tree)))


class RowTest(RefusalChecks, unittest.TestCase):
    def test_rows_of_trees(self):
        self.assertEqual(flat_of(SMALL), SMALL_ROW)
        for tree in SAMPLES + [fan(60), line(12)]:
            self.assertEqual(flat_of(tree), row_by_knobs(tree))
            self.assertIs(is_flat(flat_of(tree)), True)
            self.assertEqual(tree_of_flat(flat_of(tree)), tree)

    def test_every_row_is_that_of_one_tree(self):
        rows = [((0, "a"),)]
        for _ in range(5):
            rows.extend([row + ((level, "b"),) for row in rows for level in range(1, row[-1][0] + 2)])
            rows = sorted(set(rows))
        for row in rows:
            self.assertTrue(is_flat(row))
            self.assertEqual(flat_of(tree_of_flat(row)), row)
        self.assertEqual(len({tree_of_flat(row) for row in rows}), len(rows))

    def test_bent_at_each_pair(self):
        for at, (level, tag) in enumerate(SMALL_ROW):
            high = SMALL_ROW[at - 1][0] + 2 if at else 1
            for pair in ((high, tag), (True, tag), (False, tag), (-1, tag), (12, tag), (None, tag), ("1", tag),
                         (level, ""), (level, "A"), (level, None), (level, "abcdefghi"), (level,), (level, tag, ()),
                         [level, tag], (tag, level), (), None, level, tag, {}, very_many(), (very_many(), tag),
                         (level, very_many(58, list)), (10 ** 59, tag), ((level,), tag)):
                row = SMALL_ROW[:at] + (pair,) + SMALL_ROW[at + 1:]
                self.assertIs(is_flat(row), False, at)
                self.refused(("NoFlat",), tree_of_flat, row)
            if at:
                self.assertIs(is_flat(SMALL_ROW[:at] + ((0, tag),) + SMALL_ROW[at + 1:]), False)

    def test_bounds(self):
        self.assertTrue(is_flat(((0, "a"),) + ((1, "b"),) * 59))
        self.assertFalse(is_flat(((0, "a"),) + ((1, "b"),) * 60))
        self.assertFalse(is_flat(((0, "a"),) + ((1, "b"),) * 10 ** 6))
        self.assertFalse(is_flat(()))
        deep = tuple((level, "a") for level in range(12))
        self.assertTrue(is_flat(deep))
        self.assertFalse(is_flat(deep + ((12, "a"),)))
        self.assertFalse(is_flat(list(deep)))
        self.assertFalse(is_flat(((1, "a"),)))
        self.assertFalse(is_flat(((0, "a"), (0, "b"))))

    def test_oddities_are_none(self):
        for thing in ODDITIES + [0, "", SMALL]:
            self.assertIs(is_flat(thing), False)
            self.refused(("NoFlat",), tree_of_flat, thing)
        for thing in ODDITIES:
            self.refused(("NoTree",), flat_of, thing)
        self.assertIsInstance(refusal_of(tree_of_flat, 0), errors.NoThing)


class FlatTreeTest(RefusalChecks, unittest.TestCase):
    def check_row(self, make, tree):
        self.assertEqual(make.flat(), row_by_knobs(tree))
        places = places_of(tree)
        for number, path in enumerate(places):
            many = len([other for other in places if other[:len(path)] == path])
            self.assertEqual(make.span(path), (number, number + many))
            self.assertIsInstance(make.span(path), tuple)

    def test_at_first(self):
        for tree in SAMPLES + [fan(60), line(12)]:
            self.check_row(FlatTree(tree), tree)

    def test_the_row_behind_every_deed(self):
        for tree in SAMPLES:
            for deed in fitting(tree):
                make = FlatTree(tree)
                make.do(deed)
                self.assertEqual(make.flat(), row_by_knobs(judged(tree, deed)[0]), (tree, deed))

    def test_rows_of_deeds(self):
        for seed, tree in enumerate(SAMPLES):
            make = FlatTree(tree)
            for deed in deed_row(tree, 20, seed + 80):
                make.do(deed)
                tree = judged(tree, deed)[0]
                self.check_row(make, tree)

    def test_told_ones(self):
        row = SMALL_ROW
        for deed, behind in (
            (("name", (0, 1), "x"), row[:3] + ((2, "x"),) + row[4:]),
            (("put", (0,), 1, ("x", (leaf("y"),))), row[:3] + ((2, "x"), (3, "y")) + row[3:]),
            (("put", (), 3, leaf("x")), row + ((1, "x"),)),
            (("out", (0,)), row[:1] + row[5:]),
            (("move", (0, 1), (), 2), row[:3] + row[5:6] + ((1, "d"), (2, "e")) + row[6:]),
            (("move", (0,), (2,), 3), row[:1] + row[5:] + ((2, "b"), (3, "c"), (3, "d"), (4, "e"))),
            (("swap", (0, 1), (2,)), row[:3] + ((2, "g"), (3, "h"), (3, "i"), (3, "j")) + row[5:6] + ((1, "d"), (2, "e"))),
            (("wrap", (2,), 1, 2, "x"), row[:8] + ((2, "x"), (3, "i"), (3, "j"))),
            (("wrap", (1,), 0, 0, "x"), row[:6] + ((2, "x"),) + row[6:]),
            (("unwrap", (0,)), row[:1] + ((1, "c"), (1, "d"), (2, "e")) + row[5:]),
            (("unwrap", (1,)), row[:5] + row[6:]),
        ):
            make = FlatTree(SMALL)
            make.do(deed)
            self.assertEqual(make.flat(), behind, deed)

    def test_refusals(self):
        make = FlatTree(SMALL)
        for thing in ODDITIES:
            self.refused(("NoPath",), make.span, thing)
        for path in ((3,), (0, 2), (1, 0)):
            self.refused(("NoPlace", path), make.span, path)
        self.refused(("Stopped", 1), make.do_all, [("out", (0,)), ("out", ())])
        self.check_row(make, SMALL)


if __name__ == "__main__":
    unittest.main()
