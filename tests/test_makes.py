"""Makes and those that hear [11]; all makes answer alike [4]."""

import unittest

from tests.hearers import Notes
from tests.kinds import MAKES
from tests.model import every_deed, judged, knob_at, knob_of, size_and_depth, tree_of, why_not
from tests.refusals import RefusalChecks, refusal_of, told_of
from tests.samples import ODDITIES, SAMPLES, SMALL, deed_row, fan, leaf, line
from treelore import errors
from treelore.makes import Hearer, Make
from treelore.sending import text_of
from treelore.trees import places_of


class Shout(Exception):
    """What a hearer of these tests raises."""


def shout():
    raise Shout()


class AnswersTest(RefusalChecks, unittest.TestCase):
    def check_answers(self, make, tree):
        """The make answers as that tree would."""
        root = knob_of(tree)
        size, depth = size_and_depth(tree)
        self.assertEqual(make.value(), tree)
        self.assertEqual((make.size(), make.depth(), len(make)), (size, depth, size))
        self.assertEqual(str(make), text_of(tree))
        for path in places_of(tree):
            knob = knob_at(root, path)
            self.assertIs(make.has(path), True)
            self.assertEqual((make.part(path), make.tag(path), make.many(path)),
                             (tree_of(knob), knob.tag, len(knob.kids)))
            beyond = path + (len(knob.kids),)
            if len(beyond) < 12:
                self.assertIs(make.has(beyond), False)
                for call in (make.part, make.tag, make.many):
                    self.refused(("NoPlace", beyond), call, beyond)

    def test_at_first(self):
        for kind in MAKES:
            for tree in SAMPLES + [fan(60), line(12)]:
                self.check_answers(kind(tree), tree)

    def test_every_deed(self):
        for kind in MAKES:
            for tree in SAMPLES[1:4]:
                for deed in every_deed(tree):
                    make, why = kind(tree), why_not(tree, deed)
                    if why is None:
                        self.assertIsNone(make.do(deed))
                        self.assertEqual(make.value(), judged(tree, deed)[0])
                    else:
                        self.assertEqual(told_of(refusal_of(make.do, deed)), why)
                        self.assertEqual(make.value(), tree)

    def test_rows_of_deeds(self):
        for kind in MAKES:
            for seed, first in enumerate(SAMPLES):
                make, tree = kind(first), first
                for deed in deed_row(first, 15, seed):
                    make.do(deed)
                    tree = judged(tree, deed)[0]
                    self.check_answers(make, tree)
                other = kind(first)
                other.do_all(deed_row(first, 15, seed))
                self.check_answers(other, tree)

    def test_refused_deeds_leave_all_as_it_was(self):
        for kind in MAKES:
            make = kind(fan(60))
            self.refused(("TooMany", 61), make.do, ("put", (), 0, leaf()))
            self.check_answers(make, fan(60))
            make = kind(line(12))
            self.refused(("TooDeep", 13), make.do, ("wrap", (), 0, 1, "a"))
            self.check_answers(make, line(12))
            for thing in ODDITIES:
                self.refused(("NoDeed",), make.do, thing)
            self.check_answers(make, line(12))

    def test_do_all_is_all_or_nothing(self):
        out, name = ("out", (0,)), ("name", (), "z")
        for kind in MAKES:
            make = kind(SMALL)
            self.refused(("Stopped", 2), make.do_all, [name, out, ("out", ()), name])
            self.refused(("Stopped", 1), make.do_all, [out, None])
            self.refused(("Stopped", 3), make.do_all, [out, out, out, out])
            for thing in ODDITIES + [(), (out,), out]:
                if not isinstance(thing, list):
                    self.refused(("NoDeed",), make.do_all, thing)
            self.check_answers(make, SMALL)
            self.assertIsNone(make.do_all([]))
            self.check_answers(make, SMALL)
            self.assertIsNone(make.do_all([out, name]))
            self.check_answers(make, ("z", SMALL[1][1:]))

    def test_no_tree_and_no_path(self):
        for kind in MAKES:
            make = kind(SMALL)
            for thing in ODDITIES:
                self.refused(("NoTree",), kind, thing)
                for call in (make.part, make.tag, make.many, make.has):
                    self.refused(("NoPath",), call, thing)

    def test_a_list_may_be_changed_behind_the_call(self):
        for kind in MAKES:
            make, deeds = kind(SMALL), [("name", (), "z"), ("name", (0,), "y")]
            make.do_all(deeds)
            self.assertEqual(deeds, [("name", (), "z"), ("name", (0,), "y")])
            deeds.clear()
            self.assertEqual((make.tag(()), make.tag((0,))), ("z", "y"))

    def test_equal(self):
        for kind in MAKES:
            for other in MAKES:
                self.assertTrue(kind(SMALL) == other(SMALL))
                self.assertFalse(kind(SMALL) != other(SMALL))
                self.assertFalse(kind(SMALL) == other(leaf()))
                changed = other(SMALL)
                changed.do(("name", (1,), "z"))
                self.assertFalse(kind(SMALL) == changed)
                changed.do(("name", (1,), "f"))
                self.assertTrue(kind(SMALL) == changed)
            for thing in (SMALL, str(kind(SMALL)), None, True, 10, [], {}, [kind(SMALL)], Hearer()):
                self.assertIs(kind(SMALL) == thing, False)
                self.assertIs(thing == kind(SMALL), False)

    def test_makes_stand_beneath_the_plain_one(self):
        for kind in MAKES:
            self.assertTrue(issubclass(kind, Make))

    def test_two_makes_of_one_tree_are_apart(self):
        for kind in MAKES:
            one, other = kind(SMALL), kind(SMALL)
            one.hear(Notes([], on_heard=lambda: self.assertEqual(other.value(), SMALL)))
            one.do(("name", (), "z"))
            self.assertEqual(other.value(), SMALL)


class HearingTest(RefusalChecks, unittest.TestCase):
    def test_told_in_order_and_asked_to_settle(self):
        one, two = ("name", (), "y"), ("out", (0,))
        behind_one = ("y", SMALL[1])
        for kind in MAKES:
            make, rows = kind(SMALL), []
            first, second = Notes(rows, "first"), Notes(rows, "second")
            for hearer in (first, second, first):
                self.assertIsNone(make.hear(hearer))
            make.do(one)
            names = ("first", "second", "first")
            told = [(name, "heard", SMALL, one) for name in names] + [(name, "settle") for name in names]
            self.assertEqual(rows, told)
            rows.clear()
            make.do_all([two, two])
            behind_two = ("y", SMALL[1][1:])
            self.assertEqual(rows, [(name, "heard", behind_one, two) for name in names]
                             + [(name, "heard", behind_two, two) for name in names]
                             + [(name, "settle") for name in names])

    def test_told_ahead_of_the_next_deed(self):
        for kind in MAKES:
            make, seen = kind(SMALL), []
            make.hear(Notes([], on_heard=lambda: seen.append(make.tag(())), on_settle=lambda: seen.append(make.value())))
            make.do_all([("name", (), "x"), ("name", (), "y"), ("name", (), "z")])
            self.assertEqual(seen, ["x", "y", "z", ("z", SMALL[1])])

    def test_a_do_all_of_none_settles(self):
        for kind in MAKES:
            make, rows = kind(SMALL), []
            make.hear(Notes(rows))
            make.do_all([])
            self.assertEqual(rows, [("", "settle")])

    def test_what_is_refused_is_told_to_nobody(self):
        for kind in MAKES:
            make, rows = kind(SMALL), []
            make.hear(Notes(rows))
            for call, thing in ((make.do, ("out", ())), (make.do, None), (make.do_all, [("out", (0,)), ("out", ())]),
                                (make.do_all, None), (make.do_all, ())):
                self.assertIsNotNone(refusal_of(call, thing))
            self.assertEqual(rows, [])

    def test_busy_meanwhile_ahead_of_all_else(self):
        for kind in MAKES:
            make, told = kind(SMALL), []

            def try_deeds():
                for call, thing in ((make.do, ("out", (0,))), (make.do, None), (make.do_all, []), (make.do_all, None)):
                    told.append(told_of(refusal_of(call, thing)))

            make.hear(Notes([], on_heard=try_deeds, on_settle=try_deeds))
            make.do(("name", (), "z"))
            self.assertEqual(told, [("Busy",)] * 8)
            make.do_all([("name", (), "y"), ("name", (0,), "x")])
            self.assertEqual(told, [("Busy",)] * 20)
            self.assertEqual(make.value(), ("y", (("x", SMALL[1][0][1]),) + SMALL[1][1:]))
            self.assertIsInstance(errors.Busy(), errors.Cut)

    def test_another_make_is_not_busy(self):
        for kind in MAKES:
            make, other = kind(SMALL), kind(SMALL)
            make.hear(Notes([], on_heard=lambda: other.do(("name", (), "z"))))
            make.do(("out", (0,)))
            self.assertEqual(other.tag(()), "z")

    def test_a_hearer_that_comes_meanwhile_hears_from_the_next_on(self):
        for kind in MAKES:
            for word in ("on_heard", "on_settle"):
                make, rows = kind(SMALL), []
                late = Notes(rows, "late")
                came = []

                def come():
                    if not came:
                        came.append(True)
                        make.hear(late)

                make.hear(Notes([], **{word: come}))
                make.do_all([("name", (), "y"), ("name", (), "z")])
                self.assertEqual(rows, [])
                make.do(("name", (), "x"))
                self.assertEqual(rows, [("late", "heard", ("z", SMALL[1]), ("name", (), "x")), ("late", "settle")])

    def test_the_first_that_raises_as_it_settles_ends_it(self):
        for kind in MAKES:
            make, rows = kind(SMALL), []
            make.hear(Notes(rows, "first"))
            make.hear(Notes(rows, "second", on_settle=shout))
            make.hear(Notes(rows, "third"))
            deed = ("name", (), "z")
            with self.assertRaises(Shout):
                make.do(deed)
            self.assertEqual(rows, [(name, "heard", SMALL, deed) for name in ("first", "second", "third")]
                             + [("first", "settle"), ("second", "settle")])
            self.assertEqual(make.tag(()), "z")
            with self.assertRaises(Shout):
                make.do_all([("name", (), "y"), ("name", (), "x")])
            self.assertEqual(make.tag(()), "x")
            with self.assertRaises(Shout):
                make.do_all([])
            self.refused(("NoDeed",), make.do, None)

    def test_a_hearer_by_itself_does_nothing(self):
        hearer = Hearer()
        self.assertIsNone(hearer.heard(SMALL, ("out", (0,))))
        self.assertIsNone(hearer.settle())
        make = Make(SMALL)
        make.hear(hearer)
        make.do(("out", (0,)))
        self.assertEqual(make.many(()), 2)


if __name__ == "__main__":
    unittest.main()
