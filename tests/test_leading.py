"""Places led [9], the deed back [10], lists of deeds."""

import unittest

from tests.model import every_deed, fitting, judged, why_not
from tests.refusals import RefusalChecks, refusal_of, told_of
from tests.samples import ODDITIES, SAMPLES, SMALL, deed_row, fan, leaf, line
from treelore import errors
from treelore.deeds import done, is_deed
from treelore.leading import all_done, deed_back, led
from treelore.trees import part_of, places_of


class LedTest(RefusalChecks, unittest.TestCase):
    def test_every_place_through_every_deed(self):
        for tree in SAMPLES:
            for deed in fitting(tree):
                where = judged(tree, deed)[1]
                self.assertEqual({path: led(tree, deed, path) for path in places_of(tree)}, where, (tree, deed))

    def test_rows_of_deeds(self):
        for seed in range(4):
            tree = SAMPLES[-1 - seed]
            for deed in deed_row(tree, 20, seed + 10):
                behind, where, _ = judged(tree, deed)
                self.assertEqual({path: led(tree, deed, path) for path in places_of(tree)}, where)
                tree = behind

    def test_told_ones(self):
        # b has c and d, d has e; f; g has h, i and j.
        for deed, path, there in (
            (("name", (0,), "x"), (0,), (0,)),
            (("put", (), 1, leaf()), (0, 0), (0, 0)), (("put", (), 1, leaf()), (1,), (2,)),
            (("put", (2,), 3, leaf()), (2, 2), (2, 2)), (("put", (2,), 0, leaf()), (2, 2), (2, 3)),
            (("out", (0,)), (0, 1, 0), None), (("out", (0,)), (2, 1), (1, 1)), (("out", (2,)), (1,), (1,)),
            (("move", (0,), (2,), 1), (0, 1, 0), (1, 1, 1, 0)), (("move", (0,), (2,), 1), (2, 1), (1, 2)),
            (("move", (0,), (), 2), (0, 1), (2, 1)), (("move", (2,), (0, 1), 0), (2, 2), (0, 1, 0, 2)),
            (("move", (2,), (0, 1), 0), (0, 1, 0), (0, 1, 1)), (("move", (1,), (2,), 3), (2,), (1,)),
            (("swap", (0,), (2, 1)), (0, 1, 0), (2, 1, 1, 0)), (("swap", (0,), (2, 1)), (2, 1), (0,)),
            (("swap", (0,), (1,)), (1,), (0,)), (("swap", (0,), (1,)), (2, 0), (2, 0)),
            (("wrap", (), 1, 2, "x"), (2, 1), (1, 1, 1)), (("wrap", (), 0, 1, "x"), (2,), (2,)),
            (("wrap", (), 0, 2, "x"), (2, 1), (1, 1)), (("wrap", (), 1, 0, "x"), (1,), (2,)),
            (("wrap", (2,), 0, 3, "x"), (2,), (2,)),
            (("unwrap", (0,)), (0,), None), (("unwrap", (0,)), (0, 1, 0), (1, 0)), (("unwrap", (0,)), (2, 2), (3, 2)),
            (("unwrap", (1,)), (2, 0), (1, 0)), (("unwrap", (2,)), (1,), (1,)),
        ):
            self.assertEqual(led(SMALL, deed, path), there, (deed, path))

    def test_what_is_led_keeps_its_part(self):
        for deed in fitting(SMALL):
            if deed[0] in ("out", "unwrap", "swap"):
                for path in places_of(SMALL):
                    there = led(SMALL, deed, path)
                    if there is not None and not any(other[:len(path)] == path for other in deed[1:]):
                        self.assertEqual(part_of(done(SMALL, deed), there), part_of(SMALL, path))

    def test_refusals_in_their_order(self):
        for thing in ODDITIES:
            self.refused(("NoTree",), led, thing, thing, thing)
            self.refused(("NoDeed",), led, SMALL, thing, thing)
            self.refused(("NoPlace", (9,)), led, SMALL, ("out", (9,)), thing)
            self.refused(("NoPath",), led, SMALL, ("out", (0,)), thing)
        self.refused(("NoPlace", (1, 0)), led, SMALL, ("out", (0,)), (1, 0))
        self.refused(("NoPlace", (0, 9)), led, SMALL, ("out", (0,)), (0, 9))

    def test_refused_as_done(self):
        for deed in every_deed(SMALL):
            why = why_not(SMALL, deed)
            if why is not None:
                self.assertEqual(told_of(refusal_of(led, SMALL, deed, None)), why)
                self.assertEqual(told_of(refusal_of(deed_back, SMALL, deed)), why)
        self.refused(("TooMany", 61), led, fan(60), ("put", (), 0, leaf()), ())
        self.refused(("TooDeep", 13), deed_back, line(12), ("wrap", (), 0, 1, "a"))


class BackTest(RefusalChecks, unittest.TestCase):
    def test_the_tree_and_each_place_left_are_as_they_were(self):
        for tree in SAMPLES:
            for deed in fitting(tree):
                self.check_back(tree, deed)

    def test_at_the_bounds(self):
        self.check_back(fan(60), ("out", (58,)))
        self.check_back(fan(60), ("move", (58,), (0,), 0))
        self.check_back(fan(59), ("wrap", (), 0, 58, "w"))
        self.check_back(fan(59), ("put", (), 58, leaf()))
        self.check_back(line(12), ("unwrap", (0,) * 11))
        self.check_back(line(12), ("unwrap", (0,)))
        self.check_back(line(12), ("move", (0,) * 11, (), 1))
        self.check_back(line(11), ("wrap", (), 0, 1, "w"))

    def check_back(self, tree, deed):
        back = deed_back(tree, deed)
        behind, where, _ = judged(tree, deed)
        self.assertTrue(is_deed(back), (tree, deed))
        self.assertEqual(done(behind, back), tree, (tree, deed))
        back_where = judged(behind, back)[1]
        for path, there in where.items():
            if there is not None:
                self.assertEqual(led(behind, back, there), path, (tree, deed))
                self.assertEqual(back_where[there], path)
        self.assertEqual(deed_back(tree, deed), back)

    def test_refusals(self):
        for thing in ODDITIES:
            self.refused(("NoTree",), deed_back, thing, thing)
            self.refused(("NoDeed",), deed_back, SMALL, thing)


class AllDoneTest(RefusalChecks, unittest.TestCase):
    def test_none_one_and_several(self):
        self.assertEqual(all_done(SMALL, []), SMALL)
        self.assertEqual(all_done(SMALL, [("out", (0,))]), done(SMALL, ("out", (0,))))
        deeds = [("out", (0,)), ("wrap", (), 0, 2, "w"), ("out", (0, 0)), ("name", (), "z")]
        self.assertEqual(all_done(SMALL, deeds), ("z", (("w", (SMALL[1][2],)),)))

    def test_later_deeds_are_of_the_tree_behind_the_earlier(self):
        self.assertEqual(all_done(leaf(), [("put", (), 0, leaf("b")), ("put", (0,), 0, leaf("c"))]),
                         ("a", (("b", (leaf("c"),)),)))
        self.assertEqual(all_done(fan(60), [("out", (0,)), ("put", (), 0, leaf("b"))]), fan(60))

    def test_stopped_at_the_first_that_is_refused(self):
        out = ("out", (0,))
        self.refused(("Stopped", 0), all_done, leaf(), [out])
        self.refused(("Stopped", 3), all_done, SMALL, [out, out, out, out, out])
        self.refused(("Stopped", 1), all_done, SMALL, [out, ("out", ()), ("out", ())])
        self.refused(("Stopped", 1), all_done, fan(60), [("name", (), "z"), ("put", (), 0, leaf())])
        self.refused(("Stopped", 0), all_done, line(12), [("wrap", (), 0, 1, "a")])
        for thing in ODDITIES:
            self.refused(("Stopped", 1), all_done, SMALL, [out, thing])
        self.assertIsInstance(refusal_of(all_done, leaf(), [out]), errors.Cut)

    def test_no_tree_then_no_list(self):
        for thing in ODDITIES:
            self.refused(("NoTree",), all_done, thing, thing)
            self.refused(("NoTree",), all_done, thing, [])
            if not isinstance(thing, list):
                self.refused(("NoDeed",), all_done, SMALL, thing)
        self.refused(("NoDeed",), all_done, SMALL, ())
        self.refused(("NoDeed",), all_done, SMALL, (("out", (0,)),))
        self.refused(("NoDeed",), all_done, SMALL, ("out", (0,)))

    def test_what_is_handed_in_is_left_alone(self):
        deeds = [("out", (0,)), ("name", (), "z")]
        all_done(SMALL, deeds)
        self.assertEqual(deeds, [("out", (0,)), ("name", (), "z")])
        bad = [("out", (0,)), ["out", (0,)], {"a": [1]}]
        refusal_of(all_done, SMALL, bad)
        self.assertEqual(bad, [("out", (0,)), ["out", (0,)], {"a": [1]}])


if __name__ == "__main__":
    unittest.main()
