"""Walks that go on while the tree is changed: orders [27], walkers [28], [29], [30], stories [31]."""

import unittest

from tests.hearers import Notes
from tests.kinds import MAKES
from tests.model import do_on_knobs, find_knob, fitting, knob_of, knobs_of, tree_of, why_not
from tests.refusals import RefusalChecks, refusal_of, told_of
from tests.samples import ODDITIES, SAMPLES, SMALL, deed_row, fan, leaf, line, stair, very_many
from treelore import errors
from treelore.deeds import is_deed
from treelore.keeping import Keeper
from treelore.makes import Hearer, Make
from treelore.walks import ORDERS, WALKS, Walker, in_order, right_walk

NO_ORDERS = [None, True, False, 0, -1, "", "Ahead", "ahead ", "level", [], ["ahead"], ("ahead",), {}, {"ahead": 1}, (),
             10 ** 59, very_many(), very_many(made=list)]


def knobs_in(root, how):
    """The knobs in an order."""
    rows = [(path, knob) for path, knob in knobs_of(root)]
    if how == "leaves":
        rows = [(path, knob) for path, knob in rows if not knob.kids]
    if how == "levels":
        rows = [row for level in range(12) for row in rows if len(row[0]) == level]
    if how == "behind":
        # Of two places the one beneath the other comes first; else they stand as in the walk ahead.
        rows = sorted(rows, key=lambda row: row[0] + (99,) * (13 - len(row[0])))
    return [knob for _, knob in rows]


class KnobWalk:
    """A walk over knobs, by which walks are judged: what was shown is kept as the knobs themselves."""

    def __init__(self, tree, how, late):
        self.root = knob_of(tree)
        self.how = how
        self.late = late
        self.knobs = []

    def do(self, deed):
        do_on_knobs(self.root, deed)

    def was_shown(self, knob):
        return any(knob is known for known in self.knobs)

    def to_show(self):
        row = knobs_in(self.root, self.how)
        if not self.late:
            for known in reversed(self.knobs):
                places = [at for at, knob in enumerate(row) if knob is known]
                if places:
                    row = row[places[0] + 1:]
                    break
        return [knob for knob in row if not self.was_shown(knob)]

    def onward(self):
        row = self.to_show()
        if not row:
            return None
        self.knobs.append(row[0])
        return find_knob(self.root, row[0])

    def shown(self):
        return tuple(find_knob(self.root, knob) for knob in self.knobs)


def is_right(tree, how, story, late):
    """The judge of stories that the tests go by."""
    if not isinstance(story, tuple):
        return False
    walk = KnobWalk(tree, how, late)
    for step in story:
        if not isinstance(step, tuple) or len(step) != 2 or step[0] not in ("show", "do"):
            return False
        if step[0] == "do":
            if not is_deed(step[1]) or why_not(tree_of(walk.root), step[1]) is not None:
                return False
            walk.do(step[1])
        elif not is_very(step[1], walk.onward()):
            return False
    return True


def is_very(thing, path):
    """Whether a thing is that path, numbers by numbers, or None as that is."""
    if thing is None or path is None or not isinstance(thing, tuple):
        return thing is None and path is None
    return thing == path and not any(isinstance(step, bool) for step in thing)


class OrdersTest(RefusalChecks, unittest.TestCase):
    def test_told_ones(self):
        self.assertEqual(ORDERS, ("ahead", "behind", "levels", "leaves"))
        self.assertEqual(in_order(SMALL, "ahead"), [(), (0,), (0, 0), (0, 1), (0, 1, 0), (1,), (2,), (2, 0), (2, 1), (2, 2)])
        self.assertEqual(in_order(SMALL, "behind"), [(0, 0), (0, 1, 0), (0, 1), (0,), (1,), (2, 0), (2, 1), (2, 2), (2,), ()])
        self.assertEqual(in_order(SMALL, "levels"), [(), (0,), (1,), (2,), (0, 0), (0, 1), (2, 0), (2, 1), (2, 2), (0, 1, 0)])
        self.assertEqual(in_order(SMALL, "leaves"), [(0, 0), (0, 1, 0), (1,), (2, 0), (2, 1), (2, 2)])
        for how in ORDERS:
            self.assertEqual(in_order(leaf(), how), [()])

    def test_deep_and_wide(self):
        for tree in SAMPLES + [fan(60), line(12), stair(12), ("a", (fan(11), stair(10), fan(20), line(8)))]:
            root = knob_of(tree)
            for how in ORDERS:
                told = in_order(tree, how)
                self.assertIsInstance(told, list)
                self.assertEqual(told, [find_knob(root, knob) for knob in knobs_in(root, how)])

    def test_what_is_told_is_new_each_time(self):
        for how in ORDERS:
            told = in_order(SMALL, how)
            told.clear()
            self.assertNotEqual(in_order(SMALL, how), [])

    def test_refusals_in_their_order(self):
        for thing in ODDITIES:
            self.refused(("NoTree",), in_order, thing, "ahead")
            self.refused(("NoTree",), in_order, thing, None)
            self.refused(("NoTree",), right_walk, thing, None, None)
        for thing in NO_ORDERS:
            self.refused(("NoOrder", thing), in_order, SMALL, thing)
            self.refused(("NoOrder", thing), right_walk, SMALL, thing, ())
            self.refused(("NoOrder", thing), Walker(Make(SMALL)).begin, thing)
        self.assertIsInstance(refusal_of(in_order, SMALL, None), errors.NoThing)


class WalkerTest(RefusalChecks, unittest.TestCase):
    def check_walk(self, walker, number, judge):
        self.assertEqual(walker.shown(number), judge.shown())
        self.assertEqual(walker.left(number), len(judge.to_show()))

    def test_while_nothing_is_changed_each_walk_is_its_order(self):
        for kind in MAKES:
            for tree in (leaf(), SMALL, fan(60), stair(12)):
                walker = Walker(kind(tree))
                for number, (how, late) in enumerate([(how, late) for how in ORDERS for late in (True, False)]):
                    self.assertEqual(walker.begin(how, late=late), number)
                    paths = in_order(tree, how)
                    for at, path in enumerate(paths):
                        self.assertEqual(walker.left(number), len(paths) - at)
                        self.assertEqual(walker.onward(number), path)
                        self.assertEqual(walker.shown(number), tuple(paths[:at + 1]))
                    self.assertIsNone(walker.onward(number))
                    self.assertIsNone(walker.onward(number))
                    self.assertEqual((walker.left(number), walker.shown(number)), (0, tuple(paths)))

    def test_late_is_what_a_walk_is(self):
        make = Make(SMALL)
        walker = Walker(make)
        number = walker.begin("ahead")
        for _ in range(3):
            walker.onward(number)
        make.do(("put", (), 0, leaf("x")))
        self.assertEqual(walker.onward(number), (0,))
        self.assertTrue(right_walk(SMALL, "ahead", walker.story(number)))

    def test_a_deed_of_each_kind_at_each_moment(self):
        for tree in SAMPLES[1:4]:
            for deed in fitting(tree):
                for how in ORDERS:
                    for late in (True, False):
                        for many in range(len(in_order(tree, how)) + 1):
                            self.check_one(tree, deed, how, late, many)

    def check_one(self, tree, deed, how, late, many):
        make, judge = Make(tree), KnobWalk(tree, how, late)
        walker = Walker(make)
        walker.begin(how, late=late)
        for _ in range(many):
            self.assertEqual(walker.onward(0), judge.onward())
        make.do(deed)
        judge.do(deed)
        path = ()
        while path is not None:
            path = walker.onward(0)
            self.assertEqual(path, judge.onward(), (tree, deed, how, late, many))
        self.check_walk(walker, 0, judge)

    def test_deeds_between_over_each_kind_of_make(self):
        for kind in MAKES:
            for seed, tree in enumerate(SAMPLES):
                make = kind(tree)
                walker = Walker(make)
                judges = [KnobWalk(tree, how, late) for how in ORDERS for late in (True, False)]
                for number, judge in enumerate(judges):
                    walker.begin(judge.how, late=judge.late)
                for turn, deed in enumerate(deed_row(tree, 12, seed + 110)):
                    for number, judge in enumerate(judges):
                        for _ in range(turn % 3):
                            self.assertEqual(walker.onward(number), judge.onward())
                    make.do(deed)
                    for number, judge in enumerate(judges):
                        judge.do(deed)
                        self.check_walk(walker, number, judge)
                for number, judge in enumerate(judges):
                    self.assertTrue(is_right(tree, judge.how, walker.story(number), judge.late))
                    self.assertIs(right_walk(tree, judge.how, walker.story(number), late=judge.late), True)

    def test_what_was_shown_stays_shown_where_it_is_moved(self):
        make = Make(SMALL)
        walker = Walker(make)
        walker.begin("ahead")
        for path in ((), (0,), (0, 0)):
            self.assertEqual(walker.onward(0), path)
        make.do(("move", (0,), (2,), 3))
        self.assertEqual(walker.shown(0), ((), (1, 3), (1, 3, 0)))
        self.assertEqual([walker.onward(0) for _ in range(8)],
                         [(0,), (1,), (1, 0), (1, 1), (1, 2), (1, 3, 1), (1, 3, 1, 0), None])

    def test_what_is_gone_stays_shown(self):
        make = Make(SMALL)
        walker = Walker(make)
        walker.begin("ahead", late=False)
        for path in ((), (0,), (0, 0)):
            walker.onward(0)
        make.do(("out", (0,)))
        self.assertEqual(walker.shown(0), ((), None, None))
        self.assertEqual(walker.left(0), 5)
        make.do(("put", (), 0, SMALL[1][0]))
        self.assertEqual(walker.shown(0), ((), None, None))
        # The part that came is a new one, and the last that is there of those shown is the tree's own place.
        self.assertEqual(walker.onward(0), (0,))

    def test_a_leaf_that_gets_kids_is_none_of_its_order(self):
        make = Make(SMALL)
        walker = Walker(make)
        walker.begin("leaves", late=False)
        walker.begin("leaves", late=True)
        for path in ((0, 0), (0, 1, 0), (1,)):
            self.assertEqual((walker.onward(0), walker.onward(1)), (path, path))
        make.do(("put", (1,), 0, leaf("x")))
        make.do(("put", (0,), 0, leaf("y")))
        # The walk that isn't late goes on behind e: f has kids by now.
        self.assertEqual([walker.onward(0) for _ in range(5)], [(1, 0), (2, 0), (2, 1), (2, 2), None])
        self.assertEqual([walker.onward(1) for _ in range(6)], [(0, 0), (1, 0), (2, 0), (2, 1), (2, 2), None])
        make.do(("out", (1, 0)))
        self.assertEqual((walker.onward(0), walker.onward(1)), (None, None))

    def test_from_the_beginning_where_none_that_was_shown_is_there(self):
        make = Make(SMALL)
        walker = Walker(make)
        walker.begin("behind", late=False)
        for path in ((0, 0), (0, 1, 0), (0, 1)):
            self.assertEqual(walker.onward(0), path)
        make.do(("out", (0, 1)))
        self.assertEqual(walker.shown(0), ((0, 0), None, None))
        make.do(("put", (0,), 0, leaf("x")))
        self.assertEqual(walker.onward(0), (0,))
        make.do(("out", (0,)))
        self.assertEqual([walker.onward(0) for _ in range(7)], [(0,), (1, 0), (1, 1), (1, 2), (1,), (), None])

    def test_the_last_shown_goes_before_the_one_that_stands_last(self):
        # What a walk that isn't late showed last may be moved ahead: then it goes on from there.
        make = Make(SMALL)
        walker = Walker(make)
        walker.begin("ahead", late=False)
        for _ in range(7):
            last = walker.onward(0)
        self.assertEqual(last, (2,))
        make.do(("put", (1,), 0, leaf("x")))
        make.do(("move", (2,), (), 0))
        self.assertEqual([walker.onward(0) for _ in range(5)], [(0, 0), (0, 1), (0, 2), (2, 0), None])

    def test_again_when_a_deed_has_brought_one(self):
        for late in (True, False):
            make = Make(leaf())
            walker = Walker(make)
            walker.begin("levels", late=late)
            self.assertEqual([walker.onward(0) for _ in range(3)], [(), None, None])
            make.do(("put", (), 0, leaf("x")))
            self.assertEqual(walker.left(0), 1)
            self.assertEqual([walker.onward(0) for _ in range(2)], [(0,), None])
            make.do(("wrap", (), 0, 1, "w"))
            self.assertEqual([walker.onward(0) for _ in range(2)], [(0,), None] if late else [None, None])

    def test_a_late_walk_shows_all_that_is_there(self):
        for seed, tree in enumerate(SAMPLES):
            for how in ("ahead", "behind", "levels"):
                make = Make(tree)
                walker = Walker(make)
                walker.begin(how)
                shown = []
                for deed in deed_row(tree, 10, seed + 130):
                    shown.append(walker.onward(0))
                    make.do(deed)
                while walker.onward(0) is not None:
                    shown.append(True)
                there = [path for path in walker.shown(0) if path is not None]
                self.assertEqual(sorted(there), in_order(make.value(), "ahead"))
                self.assertEqual(len(there), len(set(there)))

    def test_deeds_of_a_do_all_and_backs(self):
        make = Make(SMALL)
        keeper, walker = Keeper(make), Walker(make)
        make.do(("name", (), "z"))
        walker.begin("ahead")
        walker.onward(0)
        deeds = [("out", (0,)), ("name", (), "y")]
        make.do_all(deeds)
        walker.onward(0)
        keeper.back()
        self.refused(("Root", ()), make.do, ("out", ()))
        self.refused(("Stopped", 1), make.do_all, [("out", (0,)), ("out", ())])
        story = (("show", ()), ("do", deeds[0]), ("do", deeds[1]), ("show", (0,)), ("do", ("name", (), "z")))
        self.assertEqual(walker.story(0), story)
        self.assertIs(right_walk(("z", SMALL[1]), "ahead", story), True)

    def test_stories(self):
        make = Make(line(2))
        walker = Walker(make)
        first = walker.begin("behind", late=False)
        self.assertEqual(walker.story(first), ())
        walker.onward(first)
        second = walker.begin("leaves")
        make.do(("name", (), "z"))
        for _ in range(2):
            walker.onward(first)
        walker.left(first)
        walker.shown(first)
        self.assertEqual(walker.story(first), (("show", (0,)), ("do", ("name", (), "z")), ("show", ()), ("show", None)))
        self.assertEqual(walker.story(second), (("do", ("name", (), "z")),))

    def test_walks_that_begin_and_are_left(self):
        self.assertEqual(WALKS, 8)
        walker = Walker(Make(SMALL))
        self.assertIsInstance(walker, Hearer)
        self.assertEqual((len(walker), str(walker)), (0, ""))
        self.assertEqual([walker.begin(ORDERS[number % 4]) for number in range(8)], list(range(8)))
        self.refused(("TooMany", 9), walker.begin, "ahead")
        self.refused(("NoOrder", "up"), walker.begin, "up")
        self.assertEqual(len(walker), 8)
        self.assertIsNone(walker.leave(3))
        self.assertEqual(len(walker), 7)
        self.refused(("NoWalk", 3), walker.onward, 3)
        self.assertEqual(walker.begin("ahead", late=False), 8)
        self.refused(("TooMany", 9), walker.begin, "ahead")
        self.assertIsInstance(refusal_of(walker.begin, "ahead"), errors.NoFit)
        walker.leave(8)
        walker.leave(0)
        self.assertEqual([walker.begin("ahead") for _ in range(2)], [9, 10])

    def test_no_walk(self):
        walker = Walker(Make(SMALL))
        walker.begin("ahead")
        walker.begin("ahead")
        walker.leave(0)
        walker.onward(1)
        calls = (walker.onward, walker.shown, walker.left, walker.story, walker.leave)
        for thing in ODDITIES + [0, 2, 8, -1, 10 ** 59, True, "1", (1,), [1], very_many()]:
            for call in calls:
                self.refused(("NoWalk", thing), call, thing)
        self.assertIsInstance(refusal_of(walker.left, None), errors.NoFit)
        self.assertEqual((len(walker), walker.shown(1)), (1, ((),)))

    def test_text(self):
        make = Make(SMALL)
        walker = Walker(make)
        for how in ("ahead", "leaves", "behind", "levels"):
            walker.begin(how, late=False)
        for _ in range(3):
            walker.onward(0)
        walker.onward(2)
        self.assertEqual(str(walker), "ahead 3 of 10\nleaves 0 of 6\nbehind 1 of 10\nlevels 0 of 10")
        make.do(("out", (0,)))
        self.assertEqual(str(walker), "ahead 3 of 8\nleaves 0 of 4\nbehind 1 of 7\nlevels 0 of 6")
        walker.leave(0)
        walker.leave(2)
        self.assertEqual(str(walker), "leaves 0 of 4\nlevels 0 of 6")

    def test_a_walker_hears_from_then_on(self):
        make = Make(SMALL)
        make.do(("out", (0,)))
        walker = Walker(make)
        walker.begin("ahead")
        self.assertEqual([walker.onward(0) for _ in range(3)], [(), (0,), (1,)])

    def test_two_walkers_over_one_make(self):
        make = Make(SMALL)
        one, other = Walker(make), Walker(make)
        one.begin("ahead")
        other.begin("behind")
        one.onward(0)
        make.do(("out", (0,)))
        self.assertEqual((one.shown(0), other.shown(0), other.onward(0)), (((),), (), (0,)))

    def test_asked_while_the_make_settles(self):
        make, seen = Make(SMALL), []
        walker = Walker(make)
        walker.begin("levels")
        make.hear(Notes([], on_settle=lambda: seen.append((walker.onward(0), told_of(refusal_of(make.do, None))))))
        make.do(("out", (2,)))
        make.do(("out", (0,)))
        make.do(("name", (), "z"))
        self.assertEqual(seen, [((), ("Busy",)), ((0,), ("Busy",)), (None, ("Busy",))])

    def test_asked_by_one_that_hears_ahead_of_it(self):
        for kind in MAKES:
            for seed, tree in enumerate(SAMPLES[1:]):
                make = kind(tree)
                told = []

                def walk_on():
                    written, lefts = str(walker), [walker.left(number) for number in range(8)]
                    many = [len(walker.shown(number)) for number in range(8)]
                    rows = [f"{how} {have} of {have + left}" for (how, late), have, left in zip(walks, many, lefts)]
                    self.assertEqual(written, "\n".join(rows))
                    for number in range(8):
                        path = walker.onward(number)
                        told.append(path is None or make.has(path))

                make.hear(Notes([], on_heard=walk_on))
                walker = Walker(make)
                walks = [(how, late) for how in ORDERS for late in (True, False)]
                for how, late in walks:
                    walker.begin(how, late=late)
                deeds = deed_row(tree, 8, seed + 210)
                make.do_all(deeds[:4])
                for deed in deeds[4:]:
                    make.do(deed)
                self.assertEqual(told, [True] * 64)
                for number, (how, late) in enumerate(walks):
                    story = walker.story(number)
                    self.assertTrue(is_right(tree, how, story, late))
                    # Each deed was done by the time at which the one that hears ahead asked.
                    self.assertEqual([step[0] for step in story], ["do", "show"] * 8)
                    there = [path for path in walker.shown(number) if path is not None]
                    self.assertEqual(len(there), len(set(there)))

    def test_one_that_came_more_than_once(self):
        for kind in MAKES:
            for seed, tree in enumerate(SAMPLES):
                for more in (1, 2):
                    make = kind(tree)
                    walker, plain = Walker(make), Walker(make)
                    for _ in range(more):
                        make.hear(walker)
                    walks = [(how, late) for how in ORDERS for late in (True, False)]
                    for how, late in walks:
                        self.assertEqual(walker.begin(how, late=late), plain.begin(how, late=late))
                    deeds = deed_row(tree, 8, seed + 230)
                    for turn in range(0, 8, 2):
                        for number in range(8):
                            self.assertEqual(walker.onward(number), plain.onward(number))
                        make.do_all(deeds[turn:turn + 2])
                        for number in range(8):
                            self.assertEqual(walker.shown(number), plain.shown(number))
                            self.assertEqual(walker.left(number), plain.left(number))
                        self.assertEqual(str(walker), str(plain))
                    for number in range(8):
                        story = []
                        for step in plain.story(number):
                            story.extend([step] * (more + 1 if step[0] == "do" else 1))
                        self.assertEqual(walker.story(number), tuple(story))

    def test_one_that_came_twice_asked_ahead_of_its_hearing(self):
        for kind in MAKES:
            make, told = kind(SMALL), []
            make.hear(Notes([], on_heard=lambda: told.append((walker.onward(0), len(walker.story(0))))))
            walker = Walker(make)
            make.hear(walker)
            walker.begin("ahead")
            put, out = ("put", (), 0, leaf("x")), ("out", (0,))
            make.do(put)
            make.do_all([out, put])
            self.assertEqual(told, [((), 2), ((0,), 5), ((0,), 8)])
            steps = [("do", put), ("show", ()), ("do", put), ("do", out), ("show", (0,)), ("do", out), ("do", put),
                     ("show", (0,)), ("do", put)]
            self.assertEqual(walker.story(0), tuple(steps))
            self.assertEqual(walker.shown(0), ((), (1,), (0,)))

    def test_begun_between_two_hearings_of_a_deed(self):
        make = Make(SMALL)
        walker = Walker(make)
        make.hear(Notes([], on_heard=lambda: walker.begin("ahead")))
        make.hear(walker)
        make.do(("name", (), "z"))
        make.do(("name", (), "y"))
        one, two = ("do", ("name", (), "z")), ("do", ("name", (), "y"))
        self.assertEqual([walker.story(number) for number in range(2)], [(one, two, two), (two,)])

    def test_begun_by_one_that_hears_ahead_of_it(self):
        make = Make(SMALL)
        make.hear(Notes([], on_heard=lambda: walker.begin("ahead")))
        walker = Walker(make)
        make.do(("out", (0,)))
        make.do(("out", (0,)))
        self.assertEqual([walker.story(number) for number in range(2)], [(("do", ("out", (0,))),), ()])

    def test_asked_ahead_of_its_hearing_by_each_question(self):
        asks = (lambda walker: walker.shown(0), lambda walker: walker.left(0), lambda walker: walker.story(0)[2:],
                lambda walker: walker.onward(0), str, len)
        told = []
        for ask in asks:
            make = Make(SMALL)
            make.hear(Notes([], on_heard=lambda: told.append(ask(walker))))
            walker = Walker(make)
            walker.begin("ahead")
            walker.onward(0)
            walker.onward(0)
            make.do(("out", (0,)))
        self.assertEqual(told, [((), None), 5, (("do", ("out", (0,))),), (0,), "ahead 2 of 7", 1])

    def test_asked_by_one_that_hears_behind_it(self):
        make, told = Make(SMALL), []
        walker = Walker(make)
        make.hear(Notes([], on_heard=lambda: told.append((str(walker), walker.shown(0), walker.left(0)))))
        walker.begin("ahead", late=False)
        for _ in range(4):
            walker.onward(0)
        make.do(("put", (), 0, leaf("n")))
        make.do(("out", (0,)))
        self.assertEqual(told, [("ahead 4 of 10", ((), (1,), (1, 0), (1, 1)), 6), ("ahead 4 of 10", ((), (0,), (0, 0), (0, 1)), 6)])

    def test_made_while_a_do_all_goes_on(self):
        made = [(leaf(), ("put", (), 0, ("y", (leaf("z"),))), [3, (), (0,), (0, 0), None]),
                (("a", (leaf("b"), leaf("c"))), ("out", (1,)), [2, (), (0,), None, None])]
        for kind in MAKES:
            for tree, deed, wanted in made:
                make, walkers, told = kind(tree), [], []

                def hear():
                    if not walkers:
                        walkers.append(Walker(make))
                        return
                    number = walkers[0].begin("ahead")
                    told.append(walkers[0].left(number))
                    self.assertEqual(str(walkers[0]), f"ahead 0 of {wanted[0]}")
                    told.extend(walkers[0].onward(number) for _ in range(4))

                notes = Notes([], on_heard=hear)
                make.hear(notes)
                make.do_all([("name", (), "x"), deed])
                self.assertEqual(told, wanted)
                self.assertEqual(walkers[0].story(0), tuple(("show", path) for path in wanted[1:]))
                notes.on_heard = None
                make.do(("put", (), 0, leaf("n")))
                self.assertEqual(walkers[0].shown(0)[:2], ((), (1,)))
                self.assertEqual((walkers[0].onward(0), walkers[0].onward(0)), ((0,), None))

    def test_what_is_told_stays(self):
        make = Make(SMALL)
        walker = Walker(make)
        walker.begin("ahead")
        walker.onward(0)
        walker.onward(0)
        shown, story = walker.shown(0), walker.story(0)
        make.do(("out", (0,)))
        self.assertEqual((shown, story), (((), (0,)), (("show", ()), ("show", (0,)))))


class RightWalkTest(RefusalChecks, unittest.TestCase):
    def story(self, how, late):
        make = Make(SMALL)
        walker = Walker(make)
        walker.begin(how, late=late)
        for deed in (("put", (), 0, leaf("x")), ("move", (1,), (3,), 1), ("out", (0,)), ("unwrap", (1,)),
                     ("wrap", (), 0, 1, "w")):
            walker.onward(0)
            walker.onward(0)
            make.do(deed)
        while walker.onward(0) is not None:
            pass
        return walker.story(0)

    def bent_stories(self, story):
        for at, step in enumerate(story):
            ahead, behind = story[:at], story[at + 1:]
            yield ahead + behind
            yield ahead + (step, step) + behind
            steps = [None, (), step[0], list(step), step[:1], step + (None,), ("Show", step[1]), (None, step[1]),
                     (very_many(), step[1]), (step[0], very_many()), (step[0], []), (step[0], True), {}]
            if step[0] == "show":
                steps.extend([("show", path) for path in in_order(SMALL, "ahead") + [None, (0, 0, 0, 0), (60,)]])
                steps.append(("do", step[1]))
                if step[1]:
                    steps.append(("show", list(step[1])))
                    if step[1][-1] < 2:
                        steps.append(("show", step[1][:-1] + (bool(step[1][-1]),)))
            else:
                steps.extend([("do", ("out", ())), ("do", ("out", (9,))), ("do", ("name", (), "zz")), ("show", step[1]),
                              ("do", list(step[1])), ("do", ("put", (), True, leaf())), ("do", None), ("do", ("out", (1,)))])
            for other in steps:
                yield ahead + (other,) + behind

    def test_right_ones_and_bent_ones(self):
        for how in ORDERS:
            for late in (True, False):
                story = self.story(how, late)
                self.assertIs(right_walk(SMALL, how, story, late=late), True)
                for end in range(len(story)):
                    self.assertIs(right_walk(SMALL, how, story[:end], late=late), True)
                wrong = 0
                for number, other in enumerate(self.bent_stories(story)):
                    right = is_right(SMALL, how, other, late)
                    self.assertIs(right_walk(SMALL, how, other, late=late), right, (how, late, number))
                    wrong += not right
                self.assertGreater(wrong, 100)

    def test_by_the_order_and_late(self):
        for how in ORDERS:
            for late in (True, False):
                story = self.story(how, late)
                for other in ORDERS:
                    for other_late in (True, False):
                        self.assertIs(right_walk(SMALL, other, story, late=other_late),
                                      is_right(SMALL, other, story, other_late))
        late, early = self.story("ahead", True), self.story("ahead", False)
        self.assertIs(right_walk(SMALL, "ahead", late), True)
        self.assertIs(right_walk(SMALL, "ahead", early), False)
        self.assertIs(right_walk(SMALL, "ahead", late, late=False), False)

    def test_things_that_are_no_stories(self):
        for thing in ODDITIES + [0, "", "show", ["show"], [("show", ())], [], ((),), (None,), (("show",),), ("show", ())]:
            if thing != ():
                self.assertIs(right_walk(SMALL, "ahead", thing), False)
        self.assertIs(right_walk(SMALL, "ahead", ()), True)
        self.assertIs(right_walk(SMALL, "ahead", (("show", ()),)), True)
        self.assertIs(right_walk(SMALL, "ahead", (("show", None),)), False)
        self.assertIs(right_walk(leaf(), "ahead", (("show", ()), ("show", None), ("show", None))), True)
        self.assertIs(right_walk(leaf(), "ahead", (("show", ()),) * 2), False)


if __name__ == "__main__":
    unittest.main()
