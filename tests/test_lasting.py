"""A lasting make: editions [15] and knots [16]."""

import unittest

from tests.hearers import Notes
from tests.model import do_on_knobs, fitting, judged, knob_of, knobs_of
from tests.refusals import RefusalChecks, refusal_of, told_of
from tests.samples import ODDITIES, SAMPLES, SMALL, deed_row, fan, leaf
from treelore import errors
from treelore.lasting import LastingTree


class Knotted:
    """Knobs that carry the knots of [16], by which editions are judged."""

    def __init__(self, tree):
        self.root = knob_of(tree)
        self.count = 0
        self.tables = []
        self.add_edition()

    def add_edition(self):
        for _, knob in knobs_of(self.root)[::-1]:
            knob.fresh = not hasattr(knob, "knot")
        self.make_knots(self.root)
        self.tables.append(tuple(sorted(knob.knot for _, knob in knobs_of(self.root))))

    def make_knots(self, knob):
        for kid in knob.kids:
            self.make_knots(kid)
        knot = (knob.tag, tuple(kid.knot[0] for kid in knob.kids))
        if knob.fresh or knob.knot[1:] != knot:
            knob.knot = (self.count, *knot)
            self.count += 1

    def do(self, deed):
        do_on_knobs(self.root, deed)
        self.add_edition()


class EditionsTest(RefusalChecks, unittest.TestCase):
    def check_editions(self, make, trees):
        self.assertEqual(make.editions(), len(trees))
        self.assertEqual([make.edition(number) for number in range(len(trees))], trees)
        self.assertEqual(make.value(), trees[-1])

    def test_behind_do_and_do_all(self):
        for seed, tree in enumerate(SAMPLES):
            one, all_at_once, trees = LastingTree(tree), LastingTree(tree), [tree]
            deeds = deed_row(tree, 12, seed + 40)
            for deed in deeds:
                one.do(deed)
                trees.append(judged(trees[-1], deed)[0])
                self.check_editions(one, trees)
            all_at_once.do_all(deeds)
            self.check_editions(all_at_once, trees)

    def test_go_to(self):
        make = LastingTree(SMALL)
        make.do(("out", (0,)))
        make.do(("name", (), "z"))
        trees = [make.edition(number) for number in range(3)]
        self.assertIsNone(make.go_to(0))
        self.check_editions(make, trees + [SMALL])
        self.assertEqual(make.knots(3), make.knots(0))
        self.assertEqual(make.shared(0, 3), 10)
        make.do(("name", (2, 2), "y"))
        self.assertEqual(make.editions(), 5)
        self.assertEqual(make.edition(3), SMALL)
        make.go_to(4)
        self.assertEqual((make.editions(), make.edition(5)), (6, make.edition(4)))
        make.go_to(1)
        self.assertEqual(make.value(), trees[1])

    def test_refused_deeds_make_no_edition(self):
        make = LastingTree(SMALL)
        make.do(("out", (0,)))
        before = (make.editions(), make.knots(0), make.knots(1))
        self.refused(("Stopped", 1), make.do_all, [("put", (), 0, leaf()), ("out", ())])
        self.refused(("Root", ()), make.do, ("out", ()))
        self.assertEqual((make.editions(), make.knots(0), make.knots(1)), before)
        make.do(("put", (), 0, leaf("x")))
        self.assertEqual(sorted(knot for knot, _, _ in make.knots(2))[-2:], [11, 12])

    def test_no_edition(self):
        make = LastingTree(SMALL)
        make.do(("out", (0,)))
        for thing in ODDITIES + [2, -1, 10 ** 59, "0", (0,)]:
            for call in (make.edition, make.knots, make.go_to):
                self.refused(("NoEdition", thing), call, thing)
            self.refused(("NoEdition", thing), make.shared, thing, 0)
            self.refused(("NoEdition", thing), make.shared, 0, thing)
            self.refused(("NoEdition", thing), make.shared, thing, 99)
        self.refused(("NoEdition", True), make.edition, True)
        self.refused(("NoEdition", False), make.shared, 0, False)
        self.assertIsInstance(refusal_of(make.edition, 2), errors.NoFit)
        self.assertEqual(make.editions(), 2)

    def test_busy_then_no_edition_then_heard(self):
        make, told = LastingTree(SMALL), []

        def try_to():
            told.append((told_of(refusal_of(make.go_to, 0)), told_of(refusal_of(make.go_to, None))))

        make.hear(Notes([], on_heard=try_to, on_settle=try_to))
        make.do(("out", (0,)))
        self.assertEqual(told, [(("Busy",), ("Busy",))] * 2)
        self.refused(("NoEdition", 2), make.go_to, 2)
        self.refused(("Heard",), make.go_to, 0)
        self.refused(("Heard",), make.go_to, 1)
        self.assertEqual((make.editions(), make.value()), (2, ("a", SMALL[1][1:])))


class KnotsTest(unittest.TestCase):
    def check_knots(self, make, knotted):
        tables = knotted.tables
        for number, table in enumerate(tables):
            self.assertEqual(make.knots(number), table)
            for other in range(len(tables)):
                both = len(set(table) & set(tables[other]))
                self.assertEqual(make.shared(number, other), both)
                self.assertEqual(make.shared(other, number), both)

    def test_the_first_edition(self):
        make = LastingTree(("a", (leaf("b"), ("c", (leaf("d"),)))))
        self.assertEqual(make.knots(0), ((0, "b", ()), (1, "d", ()), (2, "c", (1,)), (3, "a", (0, 2))))
        for tree in SAMPLES + [fan(60)]:
            self.check_knots(LastingTree(tree), Knotted(tree))

    def test_behind_every_deed(self):
        for tree in SAMPLES:
            for deed in fitting(tree):
                make, knotted = LastingTree(tree), Knotted(tree)
                make.do(deed)
                knotted.do(deed)
                self.assertEqual((make.knots(0), make.knots(1)), tuple(knotted.tables), (tree, deed))

    def test_behind_rows_of_deeds(self):
        for seed, tree in enumerate(SAMPLES):
            make, knotted = LastingTree(tree), Knotted(tree)
            deeds = deed_row(tree, 8, seed + 60)
            for deed in deeds[:5]:
                make.do(deed)
                knotted.do(deed)
            make.do_all(deeds[5:])
            for deed in deeds[5:]:
                knotted.do(deed)
            self.check_knots(make, knotted)

    def test_told_ones(self):
        make = LastingTree(("a", (leaf("b"), ("c", (leaf("d"),)))))
        make.do(("name", (0,), "x"))
        self.assertEqual(make.knots(1), ((1, "d", ()), (2, "c", (1,)), (4, "x", ()), (5, "a", (4, 2))))
        self.assertEqual((make.shared(0, 1), make.shared(1, 0)), (2, 2))
        make.do(("name", (0,), "x"))
        self.assertEqual(make.knots(2), make.knots(1))
        make.do(("swap", (0,), (1,)))
        self.assertEqual(make.knots(3), ((1, "d", ()), (2, "c", (1,)), (4, "x", ()), (6, "a", (2, 4))))
        make.do(("move", (0, 0), (), 2))
        self.assertEqual(make.knots(4), ((1, "d", ()), (4, "x", ()), (7, "c", ()), (8, "a", (7, 4, 1))))
        make.do(("wrap", (), 1, 2, "w"))
        self.assertEqual(make.knots(5), ((1, "d", ()), (4, "x", ()), (7, "c", ()), (9, "w", (4, 1)), (10, "a", (7, 9))))
        make.go_to(0)
        make.do(("put", (0,), 0, leaf("y")))
        self.assertEqual(make.knots(7), ((1, "d", ()), (2, "c", (1,)), (11, "y", ()), (12, "b", (11,)), (13, "a", (12, 2))))
        self.assertEqual((make.shared(0, 7), make.shared(5, 7), make.shared(3, 7)), (2, 1, 2))

    def test_a_like_part_that_is_put_back_shares_nothing(self):
        make = LastingTree(("a", (leaf("b"),)))
        make.do_all([("out", (0,)), ("put", (), 0, leaf("b"))])
        self.assertEqual(make.edition(2), make.edition(0))
        self.assertEqual(make.shared(0, 2), 0)


if __name__ == "__main__":
    unittest.main()
