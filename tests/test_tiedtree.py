"""A make of ties [22], beside the plain one [4]."""

import unittest

from tests.model import every_deed, fitting, judged, why_not
from tests.refusals import RefusalChecks, refusal_of, told_of
from tests.samples import ODDITIES, SAMPLES, SMALL, deed_row, fan, leaf, line
from treelore.makes import Make
from treelore.tied import is_even, items_of
from treelore.tiedtree import TiedTree
from treelore.trees import part_of, places_of


class TiedTreeTest(RefusalChecks, unittest.TestCase):
    def check_ties(self, make, tree):
        self.assertEqual(make.value(), tree)
        for path in places_of(tree):
            tie = make.tie(path)
            self.assertIs(is_even(tie), True)
            self.assertEqual(items_of(tie), [kid[0] for kid in part_of(tree, path)[1]], path)

    def test_at_first(self):
        for tree in SAMPLES + [fan(60), line(12)]:
            self.check_ties(TiedTree(tree), tree)
        self.assertIsNone(TiedTree(leaf()).tie(()))
        self.assertEqual(TiedTree(line(2)).tie(()), (None, "a", None, 1))

    def test_behind_every_deed_beside_the_plain_one(self):
        for tree in SAMPLES:
            for deed in fitting(tree):
                make, plain = TiedTree(tree), Make(tree)
                make.do(deed)
                plain.do(deed)
                self.assertTrue(make == plain)
                self.check_ties(make, judged(tree, deed)[0])

    def test_refused_ones_leave_all_as_it_was(self):
        for tree in SAMPLES[1:]:
            make = TiedTree(tree)
            ties = [make.tie(path) for path in places_of(tree)]
            for deed in every_deed(tree):
                why = why_not(tree, deed)
                if why is not None:
                    self.assertEqual(told_of(refusal_of(make.do, deed)), why)
            self.refused(("Stopped", 1), make.do_all, [("name", (), "z"), ("out", ())])
            self.refused(("NoDeed",), make.do_all, None)
            self.check_ties(make, tree)
            self.assertEqual([make.tie(path) for path in places_of(tree)], ties)

    def test_rows_of_deeds(self):
        for seed, tree in enumerate(SAMPLES):
            make, deeds = TiedTree(tree), deed_row(tree, 20, seed + 40)
            other = TiedTree(tree)
            for deed in deeds:
                make.do(deed)
                tree = judged(tree, deed)[0]
                self.check_ties(make, tree)
            other.do_all(deeds)
            self.check_ties(other, tree)

    def test_many_kids_put_in_and_taken_out_at_one_end(self):
        for first in (True, False):
            make, tags = TiedTree(leaf()), []
            for number in range(59):
                at = 0 if first else number
                tag = "abcdefghij"[number % 10] * (number % 8 + 1)
                make.do(("put", (), at, leaf(tag)))
                tags.insert(at, tag)
                self.check_ties(make, ("a", tuple(leaf(tag) for tag in tags)))
            self.refused(("TooMany", 61), make.do, ("put", (), 0, leaf()))
            while tags:
                at = len(tags) - 1 if first else 0
                make.do(("out", (at,)))
                del tags[at]
                self.check_ties(make, ("a", tuple(leaf(tag) for tag in tags)))

    def test_wide_runs(self):
        tags = [chr(97 + number % 26) for number in range(58)]
        kids = tuple(leaf(tag) for tag in tags)
        for at, many in ((0, 0), (0, 58), (58, 0), (10, 30), (0, 40), (50, 8), (57, 1)):
            make = TiedTree(("a", kids))
            make.do(("wrap", (), at, many, "w"))
            self.check_ties(make, ("a", kids[:at] + (("w", kids[at:at + many]),) + kids[at + many:]))
            make.do(("unwrap", (at,)))
            self.check_ties(make, ("a", kids))

    def test_no_path_and_no_place(self):
        make = TiedTree(SMALL)
        for thing in ODDITIES:
            self.refused(("NoPath",), make.tie, thing)
        for path in ((3,), (0, 2), (1, 0), (2, 0, 0)):
            self.refused(("NoPlace", path), make.tie, path)
        make.do(("out", (0,)))
        self.refused(("NoPlace", (2,)), make.tie, (2,))


if __name__ == "__main__":
    unittest.main()
