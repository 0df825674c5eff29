"""A make with handles: [12], [13], [14]."""

import unittest

from tests.hearers import Notes
from tests.model import do_on_knobs, fitting, knob_of, knobs_of
from tests.refusals import RefusalChecks, refusal_of
from tests.samples import ODDITIES, SAMPLES, SMALL, deed_row, fan, leaf, very_many
from treelore import errors
from treelore.handles import HandleTree


class Numbered:
    """Knobs with numbers, by which handles are judged."""

    def __init__(self, tree):
        self.root = knob_of(tree)
        self.knobs = []
        self.taken = {}
        self.many = 0
        self.number_new()

    def number_new(self):
        for _, knob in knobs_of(self.root):
            if not any(knob is known for known in self.knobs):
                self.knobs.append(knob)

    def do(self, deed):
        do_on_knobs(self.root, deed)
        standing = [knob for _, knob in knobs_of(self.root)]
        for handle, knob in enumerate(self.knobs):
            if handle not in self.taken and not any(knob is other for other in standing):
                self.taken[handle] = self.many
        self.many += 1
        self.number_new()

    def handle(self, knob):
        return [number for number, known in enumerate(self.knobs) if known is knob][0]

    def rows(self):
        """(handle, path, tag, kids' handles) of each place, in the order of the paths."""
        return [(self.handle(knob), path, knob.tag, tuple(self.handle(kid) for kid in knob.kids))
                for path, knob in knobs_of(self.root)]


class HandlesTest(RefusalChecks, unittest.TestCase):
    def check_handles(self, make, numbered):
        rows = numbered.rows()
        by_path = {path: handle for handle, path, _, _ in rows}
        self.assertEqual(make.handles(), tuple(handle for handle, _, _, _ in rows))
        self.assertEqual((make.given(), make.acts()), (len(numbered.knobs), numbered.many))
        self.assertEqual(make.gone(), tuple(sorted(numbered.taken.items())))
        for handle, path, tag, kids in rows:
            self.assertEqual((make.handle_of(path), make.path_of(handle)), (handle, path))
            self.assertEqual((make.tag_by(handle), make.below(handle)), (tag, kids))
            self.assertEqual(make.above(handle), by_path[path[:-1]] if path else None)
        for handle, deed in numbered.taken.items():
            for call in (make.path_of, make.above, make.below, make.tag_by):
                self.refused(("Gone", handle, deed), call, handle)

    def state(self, make):
        return (make.value(), make.handles(), make.given(), make.acts(), make.gone())

    def test_at_first(self):
        for tree in SAMPLES + [fan(60)]:
            make = HandleTree(tree)
            self.assertEqual(make.handles(), tuple(range(make.size())))
            self.check_handles(make, Numbered(tree))

    def test_behind_every_deed(self):
        for tree in SAMPLES:
            for deed in fitting(tree):
                make, numbered = HandleTree(tree), Numbered(tree)
                make.do(deed)
                numbered.do(deed)
                self.assertEqual((make.handles(), make.gone(), make.given(), make.acts()),
                                 (tuple(row[0] for row in numbered.rows()), tuple(sorted(numbered.taken.items())),
                                  len(numbered.knobs), 1), (tree, deed))

    def test_behind_rows_of_deeds(self):
        for seed, tree in enumerate(SAMPLES):
            make, numbered = HandleTree(tree), Numbered(tree)
            deeds = deed_row(tree, 16, seed + 20)
            for deed in deeds:
                make.do(deed)
                numbered.do(deed)
                self.check_handles(make, numbered)
            other = HandleTree(tree)
            other.do_all(deeds)
            self.check_handles(other, numbered)

    def test_told_ones(self):
        make = HandleTree(("a", (leaf("b"), ("c", (leaf("d"),)))))
        make.do(("put", (1,), 0, ("x", (leaf("y"), leaf("z")))))
        self.assertEqual(make.handles(), (0, 1, 2, 4, 5, 6, 3))
        make.do(("wrap", (), 0, 2, "w"))
        self.assertEqual(make.handles(), (0, 7, 1, 2, 4, 5, 6, 3))
        make.do(("unwrap", (0, 1, 0)))
        self.assertEqual(make.handles(), (0, 7, 1, 2, 5, 6, 3))
        self.assertEqual(make.gone(), ((4, 2),))
        make.do(("swap", (0, 0), (0, 1, 2)))
        self.assertEqual(make.handles(), (0, 7, 3, 2, 5, 6, 1))
        make.do(("move", (0, 1), (), 0))
        self.assertEqual(make.handles(), (0, 2, 5, 6, 1, 7, 3))
        self.assertEqual((make.path_of(1), make.above(1), make.below(2)), ((0, 2), 2, (5, 6, 1)))

    def test_a_part_put_back_has_new_handles(self):
        make = HandleTree(SMALL)
        make.do(("out", (0,)))
        make.do(("put", (), 0, SMALL[1][0]))
        self.assertEqual(make.value(), SMALL)
        self.assertEqual(make.handles(), (0, 10, 11, 12, 13, 5, 6, 7, 8, 9))
        self.assertEqual(make.gone(), ((1, 0), (2, 0), (3, 0), (4, 0)))
        self.assertEqual((make.given(), make.acts()), (14, 2))
        self.refused(("Gone", 1, 0), make.path_of, 1)

    def test_no_handle(self):
        make = HandleTree(SMALL)
        make.do(("out", (0,)))
        for thing in ODDITIES + [10, 11, -1, "0", (0,), [], 10 ** 59, -(10 ** 59), very_many()]:
            for call in (make.path_of, make.above, make.below, make.tag_by):
                self.refused(("NoHandle", thing), call, thing)
        self.assertIsInstance(refusal_of(make.path_of, 10), errors.NoThing)
        self.assertIsInstance(refusal_of(make.path_of, 1), errors.NoFit)

    def test_no_path_and_no_place(self):
        make = HandleTree(SMALL)
        for thing in ODDITIES:
            self.refused(("NoPath",), make.handle_of, thing)
        self.refused(("NoPlace", (3,)), make.handle_of, (3,))
        make.do(("out", (2,)))
        self.refused(("NoPlace", (2,)), make.handle_of, (2,))

    def test_a_refused_call_leaves_all_as_it_was(self):
        make = HandleTree(SMALL)
        make.do(("out", (1,)))
        before = self.state(make)
        put = ("put", (), 0, leaf("x"))
        for deeds in ([put, ("out", (0,)), ("out", ())], [("out", (0,)), put, None], [("wrap", (), 0, 2, "w"), ("out", (9,))]):
            self.refused(("Stopped", len(deeds) - 1), make.do_all, deeds)
            self.assertEqual(self.state(make), before)
        for thing in (("out", ()), ("out", (9,)), None, ("put", (), 9, leaf())):
            self.assertIsNotNone(refusal_of(make.do, thing))
            self.assertIsNotNone(refusal_of(make.do_by, thing))
            self.assertEqual(self.state(make), before)
        make.do(put)
        self.assertEqual((make.handle_of((0,)), make.acts()), (10, 2))

    def test_hearers_find_the_handles_led(self):
        make, seen = HandleTree(SMALL), []
        make.hear(Notes([], on_heard=lambda: seen.append((make.acts(), make.handles()))))
        make.do_all([("out", (0,)), ("out", (0,))])
        self.assertEqual(seen, [(1, (0, 5, 6, 7, 8, 9)), (2, (0, 6, 7, 8, 9))])


class HandleDeedsTest(RefusalChecks, unittest.TestCase):
    def test_each_word(self):
        make = HandleTree(SMALL)
        make.do(("swap", (0,), (2, 1)))
        # Now g (6) has h (7), b (1) and j (9); b has c (2) and d (3), d has e (4); i (8) stands where b stood.
        for deed, told in (
            (("name", 3, "x"), ("name", (2, 1, 1), "x")),
            (("put", 8, 0, leaf()), ("put", (0,), 0, leaf())),
            (("out", 0), ("out", ())),
            (("move", 4, 0, 60), ("move", (2, 1, 1, 0), (), 60)),
            (("swap", 1, 1), ("swap", (2, 1), (2, 1))),
            (("wrap", 6, 60, 60, "w"), ("wrap", (2,), 60, 60, "w")),
            (("unwrap", 5), ("unwrap", (1,))),
        ):
            self.assertEqual(make.by_paths(deed), told)

    def test_done_by_handles(self):
        make = HandleTree(SMALL)
        make.do(("out", (1,)))
        self.assertIsNone(make.do_by(("move", 9, 1, 0)))
        self.assertEqual(make.path_of(9), (0, 0))
        make.do_by(("unwrap", 1))
        self.assertEqual(make.handles(), (0, 9, 2, 3, 4, 6, 7, 8))
        self.assertEqual((make.acts(), make.gone()), (3, ((1, 2), (5, 0))))

    def test_no_deed(self):
        make = HandleTree(SMALL)
        for thing in ODDITIES + [
            ("out", (0,)), ("out", ()), ("out", -1), ("out", True), ("out", None), ("out", "0"), ("out", [0]), ("out",),
            ("out", 1, 1), ["out", 1], ("name", 1, "A"), ("name", True, "a"), ("put", 0, 61, leaf()), ("put", 0, 0, fan(61)),
            ("move", 1, (0,), 0), ("move", (0,), 1, 0), ("move", 99, -1, 0), ("move", 1, 0, True), ("swap", 1, False),
            ("wrap", 0, 0, -1, "w"), ("wrap", 0, 0, 0, ""), ("fell", 1), (very_many(), 1), ("put", 0, 0, very_many()),
        ]:
            self.refused(("NoDeed",), make.by_paths, thing)
            self.refused(("NoDeed",), make.do_by, thing)

    def test_the_first_handle_that_is_refused(self):
        make = HandleTree(SMALL)
        make.do(("name", (), "z"))
        make.do(("out", (0,)))
        for call in (make.by_paths, make.do_by):
            self.refused(("NoHandle", 10), call, ("out", 10))
            self.refused(("NoHandle", 10 ** 59), call, ("name", 10 ** 59, "a"))
            self.refused(("Gone", 4, 1), call, ("put", 4, 60, leaf()))
            self.refused(("Gone", 1, 1), call, ("move", 1, 10, 0))
            self.refused(("NoHandle", 10), call, ("move", 10, 1, 0))
            self.refused(("Gone", 2, 1), call, ("swap", 0, 2))
            self.refused(("NoHandle", 99), call, ("swap", 0, 99))

    def test_then_refused_as_do(self):
        make = HandleTree(SMALL)
        self.refused(("Root", ()), make.do_by, ("out", 0))
        self.refused(("Within", (0, 1)), make.do_by, ("move", 1, 3, 0))
        self.refused(("Within", (0,)), make.do_by, ("swap", 1, 1))
        self.refused(("NoPlace", (1, 1)), make.do_by, ("put", 5, 1, leaf()))
        self.refused(("TooMany", 70), make.do_by, ("put", 5, 0, fan(60)))

    def test_busy_behind_what_by_paths_refuses(self):
        make, told = HandleTree(SMALL), []

        def try_deeds():
            for deed in (("out", 5), ("out", 99), ("out", (0,)), ("out", 1), ("out", 0)):
                told.append(refusal_of(make.do_by, deed).__class__.__name__)

        make.hear(Notes([], on_settle=try_deeds))
        make.do(("out", (0,)))
        self.assertEqual(told, ["Busy", "NoHandle", "NoDeed", "Gone", "Busy"])


if __name__ == "__main__":
    unittest.main()
