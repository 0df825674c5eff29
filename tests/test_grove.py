"""Groves: names, kinds and what stands over each tree [65], deeds, backs, differences and joins [66], visits [67], the log [68],
equal groves and the text of a grove [69]."""

import unittest

from tests.grown import mixed_tree
from tests.kinds import MAKES
from tests.model import every_deed, why_not
from tests.refusals import RefusalChecks, refusal_of, told_of
from tests.samples import ODDITIES, SAMPLES, SMALL, deed_row, fan, leaf, line, very_many
from treelore import errors
from treelore.answers import answers
from treelore.counts import Counts
from treelore.differ import difference
from treelore.grove import KINDS, TREES, VISITS, Grove, make_of
from treelore.joining import three_ways
from treelore.keeping import Keeper
from treelore.makes import Make
from treelore.sending import text_of
from treelore.trees import places_of
from treelore.walks import ORDERS, in_order

NO_TAGS = [thing for thing in ODDITIES if thing != "a"]
NO_KINDS = [None, True, 0, "", "Plain", "plain ", "tree", [], ["plain"], ("plain",), {}, very_many(), 10 ** 59]
PATTERN = ("found", ("any",), (("kid", ("", ("tag", "e"), ())),))


class Shout(Exception):
    """What the called one of these tests raises."""


def grove_of(**trees):
    """A grove of plain trees by their names."""
    grove = Grove()
    for name, tree in trees.items():
        grove.begin(name, tree, "plain")
    return grove


def state_of(grove):
    """All that a grove tells of itself without being changed by it."""
    rows = [(name, grove.kind(name), grove.told(name), [grove.kth(name, at) for at in range(grove.size_at(name, ()))])
            for name in grove.names()]
    return (rows, grove.log(), len(grove), str(grove))


class MakeOfTest(RefusalChecks, unittest.TestCase):
    def test_each_kind(self):
        for kind, wanted in zip(KINDS, MAKES):
            make = make_of(kind, SMALL)
            self.assertIs(make.__class__, wanted)
            self.assertEqual(make.value(), SMALL)

    def test_refusals(self):
        for kind in NO_KINDS:
            self.refused(("NoKind", kind), make_of, kind, None)
        for kind in KINDS:
            for thing in ODDITIES:
                self.refused(("NoTree",), make_of, kind, thing)
        self.assertIsInstance(refusal_of(make_of, None, SMALL), errors.NoThing)


class TreesTest(RefusalChecks, unittest.TestCase):
    def test_at_first(self):
        grove = Grove()
        self.assertEqual((grove.names(), len(grove), grove.log(), str(grove)), ((), 0, [], ""))

    def test_begin_and_drop(self):
        grove = Grove()
        for kind in KINDS:
            self.assertIsNone(grove.begin("t" + kind, SMALL, kind))
        self.assertEqual(grove.names(), ("tflat", "thandles", "tlasting", "tplain", "ttied"))
        self.assertEqual([(grove.kind("t" + kind), grove.told("t" + kind)) for kind in KINDS], [(kind, SMALL) for kind in KINDS])
        self.assertIsNone(grove.drop("tflat"))
        self.assertEqual((grove.names(), len(grove)), (("thandles", "tlasting", "tplain", "ttied"), 4))
        self.refused(("NoName", "tflat"), grove.told, "tflat")
        grove.begin("tflat", leaf("z"), "tied")
        self.assertEqual((grove.kind("tflat"), grove.told("tflat")), ("tied", leaf("z")))

    def test_begin_refused(self):
        grove = grove_of(b=SMALL)
        before = state_of(grove)
        for thing in NO_TAGS:
            self.refused(("NoTag",), grove.begin, thing, None, None)
        for thing in ODDITIES:
            self.refused(("Planted", "b"), grove.begin, "b", thing, None)
            self.refused(("NoTree",), grove.begin, "c", thing, None)
        for kind in NO_KINDS:
            self.refused(("NoKind", kind), grove.begin, "c", leaf(), kind)
        self.assertEqual(state_of(grove), before)
        self.assertIsInstance(refusal_of(grove.begin, "b", leaf(), "plain"), errors.NoFit)

    def test_the_ninth(self):
        grove = Grove()
        for name in "abcdefgh":
            grove.begin(name, leaf(name), "flat")
        before = state_of(grove)
        self.refused(("TooMany", TREES + 1), grove.begin, "i", leaf(), "plain")
        self.refused(("NoKind", "i"), grove.begin, "i", leaf(), "i")
        self.refused(("Planted", "h"), grove.begin, "h", leaf(), "plain")
        self.refused(("TooMany", 9), grove.join, "i", "a", "a", "b", "plain")
        self.assertEqual(state_of(grove), before)
        grove.drop("c")
        grove.begin("i", leaf(), "plain")
        self.assertEqual(len(grove), 8)

    def test_names_ahead_of_all_else(self):
        grove = grove_of(b=SMALL)
        before = state_of(grove)
        calls = {"drop": 0, "kind": 0, "told": 0, "do": 1, "do_all": 1, "back": 0, "keep": 1, "where": 1, "size_at": 1, "kth": 1,
                 "find": 1, "visit": 2}
        for word, more in calls.items():
            call = getattr(grove, word)
            for thing in NO_TAGS:
                self.refused(("NoTag",), call, thing, *[None] * more)
            self.refused(("NoName", "c"), call, "c", *[None] * more)
        self.refused(("NoTag",), grove.difference, None, None)
        self.refused(("NoName", "c"), grove.difference, "c", None)
        self.refused(("NoTag",), grove.difference, "b", None)
        self.refused(("NoName", "d"), grove.difference, "b", "d")
        self.assertEqual(state_of(grove), before)

    def test_what_is_told_is_that_of_its_make_keeper_and_counts(self):
        for kind in KINDS:
            for seed, tree in enumerate(SAMPLES):
                grove = Grove()
                grove.begin("t", tree, kind)
                make = Make(tree)
                keeper, counts = Keeper(make), Counts(make)
                tickets = [(grove.keep("t", path), keeper.keep(path)) for path in places_of(tree)]
                for number, deed in enumerate(deed_row(tree, 9, seed)):
                    if number % 3:
                        grove.do("t", deed)
                        make.do(deed)
                    else:
                        grove.do_all("t", [deed])
                        make.do_all([deed])
                    if number % 4 == 3:
                        grove.back("t")
                        keeper.back()
                        grove.do("t", deed)
                        make.do(deed)
                    self.assertEqual(grove.told("t"), make.value())
                    for one, other in tickets:
                        self.assertEqual(told_of(refusal_of(grove.where, "t", one)), told_of(refusal_of(keeper.where, other)))
                        if refusal_of(keeper.where, other) is None:
                            self.assertEqual(grove.where("t", one), keeper.where(other))
                    for number, path in enumerate(places_of(make.value())):
                        self.assertEqual((grove.size_at("t", path), grove.kth("t", number)), (counts.size_at(path), path))
                    self.assertEqual(grove.find("t", PATTERN), answers(make.value(), PATTERN))

    def test_what_is_refused_changes_nothing(self):
        for kind in KINDS:
            grove = Grove()
            grove.begin("t", SMALL, kind)
            make = Make(SMALL)
            counts = Counts(make)
            grove.keep("t", (0, 1))
            before = state_of(grove)
            deeds = [deed for deed in every_deed(SMALL) if why_not(SMALL, deed) is not None]
            for deed in deeds[::7] + [None, ("out", ()), ("out", (9,)), ("put", (), 0, fan(60)), ("swap", (0,), (0, 0))]:
                told = told_of(refusal_of(make.do, deed))
                self.refused(told, grove.do, "t", deed)
                self.refused(("Stopped", 1), grove.do_all, "t", [("name", (), "z"), deed])
            for thing in (None, (), "do", {}):
                self.refused(("NoDeed",), grove.do_all, "t", thing)
            self.refused(("NothingBack",), grove.back, "t")
            for thing in ODDITIES:
                self.refused(("NoPath",), grove.keep, "t", thing)
                self.refused(("NoPath",), grove.size_at, "t", thing)
                self.refused(told_of(refusal_of(counts.kth, thing)), grove.kth, "t", thing)
                self.refused(("NoPattern", "pattern"), grove.find, "t", thing)
                self.refused(("NoTicket", thing), grove.where, "t", thing)
            self.refused(("NoPlace", (3,)), grove.keep, "t", (3,))
            self.refused(("NoPlace", (3,)), grove.size_at, "t", (3,))
            self.refused(("NoCount", "number"), grove.kth, "t", -1)
            self.refused(("NoKth", 10), grove.kth, "t", 10)
            self.refused(("NoTicket", 1), grove.where, "t", 1)
            self.assertEqual(state_of(grove), before)
            grove.do("t", ("out", (0,)))
            self.refused(("Taken", 0, 0), grove.where, "t", 0)
            grove.back("t")
            self.assertEqual(grove.where("t", 0), (0, 1))

    def test_what_is_handed_in_and_told_may_be_changed(self):
        grove = grove_of(t=SMALL)
        deeds = [("name", (), "z"), ("out", (0,))]
        grove.do_all("t", deeds)
        deeds.clear()
        self.assertEqual(grove.log()[-1], ("all", "t", (("name", (), "z"), ("out", (0,)))))
        grove.log().clear()
        self.assertEqual(len(grove.log()), 2)


class TwoAndThreeTest(RefusalChecks, unittest.TestCase):
    def test_difference(self):
        trees = [SMALL, mixed_tree(1, 12), mixed_tree(2, 9), leaf("z")]
        for one in trees:
            for other in trees:
                grove = Grove()
                grove.begin("one", one, "tied")
                grove.begin("other", other, "lasting")
                self.assertEqual(grove.difference("one", "other"), difference(one, other))
                self.assertEqual(grove.difference("one", "one"), ())
        grove = grove_of(a=fan(13), b=fan(14), c=SMALL)
        self.refused(("TooMany", 13), grove.difference, "a", "b")
        self.refused(("TooMany", 14), grove.difference, "c", "b")

    def test_join(self):
        base = ("a", (leaf("b"), ("c", (leaf("d"), leaf("e")))))
        ours = ("a", (leaf("z"), ("c", (leaf("d"), leaf("e"), leaf("f")))))
        theirs = ("q", (leaf("b"), ("c", (leaf("e"),))))
        for kind in KINDS:
            grove = grove_of(base=base, ours=ours, theirs=theirs)
            self.assertIsNone(grove.join("new", "base", "ours", "theirs", kind))
            joined = three_ways(base, ours, theirs)
            self.assertEqual((grove.told("new"), grove.kind("new")), (joined, kind))
            self.assertEqual(grove.log()[-1], ("begin", "new", kind, joined))
            grove.do("new", ("out", (0,)))
            grove.back("new")
            self.assertEqual(grove.told("new"), joined)
            self.assertEqual(grove.told("base"), base)

    def test_join_refused_in_order(self):
        grove = grove_of(b=leaf("x"), o=leaf("y"), t=leaf("z"), m=("a", (leaf("b"), leaf("c"))),
                         n=("a", (leaf("b"), ("c", (leaf("x"),) * 40))), k=("a", (("b", (leaf("y"),) * 40), leaf("c"))))
        before = state_of(grove)
        for thing in NO_TAGS:
            self.refused(("NoTag",), grove.join, thing, None, None, None, None)
            self.refused(("NoTag",), grove.join, "b", thing, "q", "q", None)
            self.refused(("NoTag",), grove.join, "b", "b", thing, "q", None)
            self.refused(("NoTag",), grove.join, "b", "b", "o", thing, None)
            self.refused(("NoTag",), grove.join, thing, "b", "b", "b", "plain")
        self.refused(("NoName", "q"), grove.join, "b", "q", None, None, None)
        self.refused(("NoName", "q"), grove.join, "b", "b", "q", None, None)
        self.refused(("NoName", "q"), grove.join, "b", "b", "o", "q", None)
        self.refused(("Planted", "b"), grove.join, "b", "b", "o", "t", None)
        for kind in NO_KINDS:
            self.refused(("NoKind", kind), grove.join, "new", "b", "o", "t", kind)
        self.refused(("Clashing", 0, 0), grove.join, "new", "b", "o", "t", "plain")
        self.refused(("TooMany", 83), grove.join, "new", "m", "n", "k", "plain")
        self.assertEqual(state_of(grove), before)
        grove.begin("h", leaf(), "plain")
        grove.begin("i", leaf(), "plain")
        # Of a grove that is full what three_ways refuses goes first.
        self.refused(("Clashing", 0, 0), grove.join, "new", "b", "o", "t", "plain")
        self.refused(("TooMany", 83), grove.join, "new", "m", "n", "k", "plain")
        self.refused(("TooMany", 9), grove.join, "new", "b", "b", "t", "plain")


class VisitTest(RefusalChecks, unittest.TestCase):
    def test_each_order(self):
        for kind in KINDS:
            for how in ORDERS:
                for late in (True, False):
                    grove, paths = Grove(), []
                    grove.begin("t", SMALL, kind)
                    self.assertEqual(grove.visit("t", how, paths.append, late=late), len(paths))
                    self.assertEqual(paths, in_order(SMALL, how))
                    self.assertEqual(grove.log()[1:], [("visit", "t", how), ("left", "t", len(paths))])

    def test_refused(self):
        grove = grove_of(t=SMALL)
        for how in [None, "", "Ahead", 0, True, [], ("ahead",), very_many()]:
            self.refused(("NoOrder", how), grove.visit, "t", how, None)
        self.assertEqual(len(grove.log()), 1)

    def test_deeds_meanwhile(self):
        for kind in KINDS:
            # A place that comes ahead of those shown is shown by a late walk alone.
            for late, wanted in ((True, [(), (0,), (0,), (2,)]), (False, [(), (0,), (2,)])):
                grove, paths = Grove(), []
                grove.begin("t", ("a", (leaf("b"), leaf("c"))), kind)
                grove.begin("u", leaf(), kind)

                def tell(path):
                    paths.append(path)
                    if len(paths) == 2:
                        grove.do("t", ("put", (), 0, leaf("n")))
                        grove.do("u", ("put", (), 0, leaf("n")))

                self.assertEqual(grove.visit("t", "ahead", tell, late=late), len(wanted))
                self.assertEqual(paths, wanted)
                self.assertEqual([entry[0] for entry in grove.log()], ["begin", "begin", "visit", "do", "do", "left"])

    def test_parts_that_go_meanwhile(self):
        grove, paths = grove_of(t=SMALL), []

        def tell(path):
            paths.append(path)
            if path == (0, 0):
                grove.do_all("t", [("out", (0, 1)), ("move", (0,), (1,), 0)])
            if path == (1,):
                grove.back("t")

        self.assertEqual(grove.visit("t", "ahead", tell), len(paths))
        # (0,) and (0, 0) are shown already, wherever they stand; the back brings b ahead of f, the one that is shown.
        self.assertEqual(paths, [(), (0,), (0, 0), (0,), (1,), (2, 0), (2, 1), (2, 2)])

    def test_dropped_meanwhile(self):
        for kind in KINDS:
            grove, paths = Grove(), []
            grove.begin("t", SMALL, kind)

            def tell(path):
                paths.append(path)
                if path == ():
                    grove.drop("t")
                if path == (0,):
                    grove.begin("t", leaf("z"), kind)
                    grove.do("t", ("name", (), "y"))

            self.assertEqual(grove.visit("t", "levels", tell), 10)
            self.assertEqual(paths, in_order(SMALL, "levels"))
            self.assertEqual([entry[0] for entry in grove.log()], ["begin", "visit", "drop", "begin", "do", "left"])
            self.assertEqual((grove.log()[-1], grove.told("t")), (("left", "t", 10), leaf("y")))

    def test_what_is_raised_goes_through(self):
        grove, paths = grove_of(t=SMALL), []

        def tell(path):
            paths.append(path)
            if len(paths) == 3:
                raise Shout()

        with self.assertRaises(Shout):
            grove.visit("t", "ahead", tell)
        self.assertEqual(grove.log()[1:], [("visit", "t", "ahead"), ("left", "t", 3)])
        # A refusal by the grove that the called one doesn't catch goes through, too.
        self.refused(("NoName", "x"), grove.visit, "t", "leaves", lambda path: grove.drop("x"))
        self.assertEqual(grove.log()[3:], [("visit", "t", "leaves"), ("left", "t", 1)])

    def test_no_more_than_so_many_places(self):
        grove, paths = grove_of(t=fan(3)), []

        def tell(path):
            paths.append(path)
            grove.do_all("t", [("out", (0,)), ("put", (), 1, leaf("n"))])

        self.assertEqual(grove.visit("t", "ahead", tell), VISITS)
        self.assertEqual((len(paths), grove.log()[-1]), (200, ("left", "t", 200)))

    def test_visits_within_visits(self):
        grove, rows = grove_of(t=("a", (leaf("b"), leaf("c")))), []

        def within(depth):
            def tell(path):
                rows.append((depth, path))
                if path == () and depth < 12:
                    grove.visit("t", "ahead", within(depth + 1))
            return tell

        self.assertEqual(grove.visit("t", "ahead", within(0)), 3)
        self.assertEqual(len(rows), 39)
        words = [entry[0] for entry in grove.log()]
        self.assertEqual(words, ["begin"] + ["visit"] * 13 + ["left"] * 13)

    def test_ended_visits_hear_no_more(self):
        grove = grove_of(t=SMALL)
        for _ in range(50):
            grove.visit("t", "ahead", lambda path: None)
            self.refused(("NoName", "x"), grove.visit, "t", "ahead", lambda path: grove.drop("x"))
            self.refused(("NoOrder", "x"), grove.visit, "t", "x", None)
        self.assertLess(len(grove.plots["t"].base.hearers), 5)


class LogTest(unittest.TestCase):
    def test_entry_by_entry(self):
        grove = Grove()
        grove.begin("b", SMALL, "flat")
        grove.begin("a", leaf("a"), "tied")
        grove.do("b", ("out", (0,)))
        grove.do_all("b", [])
        grove.do_all("b", [("name", (), "z"), ("unwrap", (1,))])
        grove.back("b")
        grove.join("c", "a", "a", "a", "plain")
        grove.visit("a", "behind", lambda path: grove.do("a", ("name", (), "k")))
        grove.keep("a", ())
        refusal_of(grove.do, "a", ("out", ()))
        grove.drop("a")
        self.assertEqual(grove.log(), [
            ("begin", "b", "flat", SMALL), ("begin", "a", "tied", leaf("a")), ("do", "b", ("out", (0,))), ("all", "b", ()),
            ("all", "b", (("name", (), "z"), ("unwrap", (1,)))), ("back", "b"), ("begin", "c", "plain", leaf("a")),
            ("visit", "a", "behind"), ("do", "a", ("name", (), "k")), ("left", "a", 1), ("drop", "a"),
        ])


class EqualTest(unittest.TestCase):
    def test_equal(self):
        one, other = grove_of(a=SMALL, b=leaf()), grove_of(b=leaf(), a=leaf("z"))
        self.assertFalse(one == other)
        self.assertTrue(one != other)
        other.drop("a")
        other.begin("a", ("z", SMALL[1]), "plain")
        other.do("a", ("name", (), "a"))
        self.assertTrue(one == other)
        other.drop("b")
        self.assertFalse(one == other)
        other.begin("b", leaf(), "flat")
        self.assertFalse(one == other)
        self.assertTrue(Grove() == Grove())
        for thing in (None, "", str(one), SMALL, [], Make(SMALL), 0):
            self.assertFalse(one == thing)
            self.assertFalse(Grove() == thing)

    def test_text(self):
        grove = Grove()
        for name, tree, kind in (("zz", SMALL, "tied"), ("b", leaf("x"), "plain"), ("a", line(3), "lasting")):
            grove.begin(name, tree, kind)
        self.assertEqual(str(grove), f"a lasting a(a(a))\nb plain x\nzz tied {text_of(SMALL)}")


if __name__ == "__main__":
    unittest.main()
