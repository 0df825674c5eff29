"""Places kept: keepers [23], tickets [24], back [25], watchers [26]."""

import unittest

from tests.hearers import Notes
from tests.kinds import MAKES
from tests.model import fitting, judged
from tests.refusals import RefusalChecks, refusal_of, told_of
from tests.samples import ODDITIES, SAMPLES, SMALL, deed_row, fan, leaf, very_many
from treelore import errors
from treelore.keeping import Keeper
from treelore.makes import Hearer, Make
from treelore.trees import places_of


class Shout(Exception):
    """What a watcher or hearer of these tests raises."""


def shout(*things):
    raise Shout()


def state_of(keeper):
    return (keeper.tickets(), keeper.takes(), len(keeper), keeper.deeds_heard(), keeper.can_back())


def keep_all(keeper, tree):
    return [keeper.keep(path) for path in places_of(tree)]


class TicketsTest(RefusalChecks, unittest.TestCase):
    def test_at_first(self):
        for kind in MAKES:
            keeper = Keeper(kind(SMALL))
            self.assertIsInstance(keeper, Hearer)
            self.assertEqual(state_of(keeper), ((), (), 0, 0, 0))
            self.assertEqual([keeper.keep(path) for path in ((0, 1), (), (0, 1))], [0, 1, 2])
            self.assertEqual(keeper.tickets(), ((0, (0, 1)), (1, ()), (2, (0, 1))))
            self.assertEqual((keeper.where(0), keeper.where(1), keeper.where(2), len(keeper)), ((0, 1), (), (0, 1), 3))

    def test_led_through_every_deed(self):
        for tree in SAMPLES:
            for deed in fitting(tree):
                make = Make(tree)
                keeper = Keeper(make)
                keep_all(keeper, tree)
                make.do(deed)
                where = judged(tree, deed)[1]
                self.assertEqual(keeper.tickets(), tuple(enumerate(where[path] for path in places_of(tree))))
                gone = [ticket for ticket, path in enumerate(places_of(tree)) if where[path] is None]
                self.assertEqual(keeper.takes(), tuple((ticket, 0) for ticket in gone))
                for ticket in gone:
                    self.refused(("Taken", ticket, 0), keeper.where, ticket)

    def test_over_each_kind_of_make(self):
        for kind in MAKES:
            for seed, tree in enumerate(SAMPLES):
                make = kind(tree)
                keeper = Keeper(make)
                held, ends, given = {}, {}, 0
                for number, deed in enumerate(deed_row(tree, 14, seed + 60)):
                    for path in places_of(tree)[:3]:
                        self.assertEqual(keeper.keep(path), given)
                        held[given] = path
                        given += 1
                    make.do(deed)
                    tree, where, _ = judged(tree, deed)
                    for ticket, path in held.items():
                        if path is not None:
                            held[ticket] = where[path]
                            if where[path] is None:
                                ends[ticket] = number
                    self.assertEqual(state_of(keeper), (tuple(held.items()), tuple(sorted(ends.items())), given, number + 1,
                                                        number + 1))

    def test_deeds_of_a_do_all_are_numbered_each(self):
        for kind in MAKES:
            make = kind(SMALL)
            keeper = Keeper(make)
            keep_all(keeper, SMALL)
            make.do_all([("name", (), "z"), ("out", (1,)), ("unwrap", (0,))])
            self.assertEqual(keeper.takes(), ((1, 2), (5, 1)))
            self.assertEqual((keeper.deeds_heard(), keeper.can_back()), (3, 3))
            self.refused(("Stopped", 1), make.do_all, [("out", (0,)), ("out", ())])
            self.refused(("Root", ()), make.do, ("out", ()))
            self.assertEqual((keeper.takes(), keeper.deeds_heard(), keeper.can_back()), (((1, 2), (5, 1)), 3, 3))

    def test_a_keeper_hears_from_then_on(self):
        make = Make(SMALL)
        make.do(("out", (0,)))
        keeper = Keeper(make)
        self.assertEqual(keeper.deeds_heard(), 0)
        self.refused(("NothingBack",), keeper.back)
        ticket = keeper.keep((0,))
        make.do(("out", (0,)))
        self.refused(("Taken", ticket, 0), keeper.where, ticket)

    def test_tickets_that_are_let_go(self):
        make = Make(SMALL)
        keeper = Keeper(make)
        keep_all(keeper, SMALL)
        make.do(("out", (0,)))
        self.assertIsNone(keeper.let_go(1))
        self.assertIsNone(keeper.let_go(9))
        self.assertEqual(len(keeper), 8)
        self.assertEqual(keeper.takes(), ((2, 0), (3, 0), (4, 0)))
        self.assertEqual(keeper.tickets(), ((0, ()), (2, None), (3, None), (4, None), (5, (0,)), (6, (1,)), (7, (1, 0)),
                                            (8, (1, 1))))
        for ticket in (1, 9):
            for call in (keeper.where, keeper.let_go):
                self.refused(("NoTicket", ticket), call, ticket)
        self.assertEqual(keeper.keep((1, 2)), 10)
        for ticket, _ in keeper.tickets():
            keeper.let_go(ticket)
        self.assertEqual((keeper.tickets(), keeper.takes(), len(keeper)), ((), (), 0))
        self.assertEqual(keeper.keep(()), 11)

    def test_a_ticket_of_a_part_that_comes_again_stays_taken(self):
        make = Make(SMALL)
        keeper = Keeper(make)
        ticket = keeper.keep((0,))
        make.do(("out", (0,)))
        make.do(("put", (), 0, SMALL[1][0]))
        self.refused(("Taken", ticket, 0), keeper.where, ticket)
        self.assertEqual(keeper.tickets(), ((0, None),))

    def test_no_ticket(self):
        keeper = Keeper(Make(SMALL))
        keeper.keep(())
        keeper.keep((1,))
        for thing in ODDITIES + [2, 10 ** 59, -1, "0", (0,), [0], True, False, very_many()]:
            for call in (keeper.where, keeper.let_go):
                self.refused(("NoTicket", thing), call, thing)
        self.assertIsInstance(refusal_of(keeper.where, 2), errors.NoThing)
        self.assertEqual(len(keeper), 2)

    def test_no_path_and_no_place(self):
        make = Make(SMALL)
        keeper = Keeper(make)
        for thing in ODDITIES:
            self.refused(("NoPath",), keeper.keep, thing)
        for path in ((3,), (0, 2), (1, 0)):
            self.refused(("NoPlace", path), keeper.keep, path)
        self.assertEqual(keeper.keep((2,)), 0)
        make.do(("out", (1,)))
        self.refused(("NoPlace", (2,)), keeper.keep, (2,))
        self.assertEqual(keeper.keep((1,)), 1)

    def test_kept_by_one_that_hears_ahead_of_it(self):
        for kind in MAKES:
            make, told = kind(SMALL), []
            make.hear(Notes([], on_heard=lambda: told.append((keeper.keep((3, 2)), refusal_of(keeper.keep, (2, 2)).path))))
            keeper = Keeper(make)
            make.do(("put", (), 0, leaf("x")))
            # (3, 2) is a place of the tree behind the deed: so the deed doesn't lead it any more.
            self.assertEqual((told, keeper.tickets(), keeper.deeds_heard()), ([(0, (2, 2))], ((0, (3, 2)),), 1))

    def test_asked_by_one_that_hears_ahead_of_it(self):
        for kind in MAKES:
            for seed, tree in enumerate(SAMPLES):
                make, asked, plain = kind(tree), [], []
                make.hear(Notes([], on_heard=lambda: asked.append(state_of(keeper))))
                keeper = Keeper(make)
                make.hear(Notes([], on_heard=lambda: plain.append(state_of(keeper))))
                keep_all(keeper, tree)
                deeds = deed_row(tree, 6, seed + 40)
                make.do_all(deeds[:3])
                for deed in deeds[3:]:
                    make.do(deed)
                keeper.back()
                self.assertEqual(asked, plain)
                self.assertEqual((keeper.deeds_heard(), keeper.can_back()), (7, 5))

    def test_each_question_by_itself_ahead_of_its_hearing(self):
        asks = (lambda keeper: told_of(refusal_of(keeper.where, 1)), lambda keeper: keeper.takes(),
                lambda keeper: keeper.tickets()[1:3], lambda keeper: keeper.deeds_heard(), lambda keeper: keeper.can_back())
        told = []
        for ask in asks:
            make = Make(SMALL)
            make.hear(Notes([], on_heard=lambda: told.append(ask(keeper))))
            keeper = Keeper(make)
            keep_all(keeper, SMALL)
            make.do(("unwrap", (0,)))
        self.assertEqual(told, [("Taken", 1, 0), ((1, 0),), ((1, None), (2, (0,))), 1, 1])

    def test_one_that_came_more_than_once(self):
        for kind in MAKES:
            for seed, tree in enumerate(SAMPLES):
                for more in (1, 2):
                    make = kind(tree)
                    keeper, plain, rows = Keeper(make), Keeper(make), []
                    for _ in range(more):
                        make.hear(keeper)
                    keeper.watch(lambda number, tickets: rows.append((number, tickets)))
                    self.assertEqual(keep_all(keeper, tree), keep_all(plain, tree))
                    deeds = deed_row(tree, 6, seed + 240)
                    make.do_all(deeds[:3])
                    for deed in deeds[3:]:
                        make.do(deed)
                    # It is led through each deed once, as one that came once is; a deed's number is that of its first hearing.
                    self.assertEqual(keeper.tickets(), plain.tickets())
                    takes = tuple((ticket, deed * (more + 1)) for ticket, deed in plain.takes())
                    self.assertEqual(keeper.takes(), takes)
                    self.assertEqual((keeper.deeds_heard(), keeper.can_back()), (6 * (more + 1), 6))
                    numbers = sorted({deed for _, deed in takes})
                    called = [(number, tuple(ticket for ticket, deed in takes if deed == number)) for number in numbers]
                    self.assertEqual(rows, called)

    def test_back_of_one_that_came_twice(self):
        for kind in MAKES:
            for seed, tree in enumerate(SAMPLES):
                make = kind(tree)
                keeper, rows = Keeper(make), []
                make.hear(keeper)
                keep_all(keeper, tree)
                deeds = deed_row(tree, 6, seed + 250)
                for deed in deeds:
                    rows.append((make.value(), keeper.tickets(), keeper.takes()))
                    make.do(deed)
                for number, row in enumerate(reversed(rows)):
                    self.assertEqual((keeper.can_back(), keeper.deeds_heard()), (6 - number, 12 + 2 * number))
                    keeper.back()
                    self.assertEqual((make.value(), keeper.tickets(), keeper.takes()), row)
                self.assertEqual(keeper.deeds_heard(), 24)
                self.refused(("NothingBack",), keeper.back)

    def test_one_that_came_twice_asked_between(self):
        for kind in MAKES:
            make, told = kind(SMALL), []

            def ask():
                told.append((keeper.where(0), keeper.deeds_heard()))

            make.hear(Notes([], on_heard=ask))
            keeper = Keeper(make)
            make.hear(Notes([], on_heard=ask))
            make.hear(keeper)
            make.hear(Notes([], on_heard=ask))
            keeper.keep((0,))
            make.do(("put", (), 0, leaf("x")))
            make.do_all([("put", (), 0, leaf("y")), ("name", (), "z")])
            # The one that hears ahead of it asks when the deed is done: so it has taken that in for its first hearing.
            self.assertEqual(told, [((1,), 1), ((1,), 1), ((1,), 2), ((2,), 3), ((2,), 3), ((2,), 4),
                                    ((2,), 5), ((2,), 5), ((2,), 6)])

    def test_one_that_comes_again_meanwhile(self):
        make = Make(SMALL)
        keeper = Keeper(make)
        notes = Notes([], on_heard=lambda: make.hear(keeper))
        make.hear(notes)
        make.do_all([("name", (), "x"), ("name", (), "y")])
        self.assertEqual(keeper.deeds_heard(), 2)
        notes.on_heard = None
        make.do(("name", (), "z"))
        self.assertEqual(keeper.deeds_heard(), 5)

    def test_let_go_by_one_that_hears_ahead_of_it(self):
        make = Make(SMALL)
        notes = Notes([], on_heard=lambda: keeper.let_go(0))
        make.hear(notes)
        keeper = Keeper(make)
        keeper.keep((0,))
        keeper.keep((0,))
        make.do(("out", (0,)))
        notes.on_heard = None
        self.assertEqual((keeper.tickets(), keeper.takes()), (((1, None),), ((1, 0),)))
        keeper.back()
        self.assertEqual(keeper.tickets(), ((1, (0,)),))

    def made_meanwhile(self, kind, tree, deeds, use):
        """A make behind a do_all, and a keeper that was made at its first deed; use is called with that at its second."""
        make, keepers = kind(tree), []

        def hear():
            if keepers:
                use(make, keepers[0])
            else:
                keepers.append(Keeper(make))

        make.hear(Notes([], on_heard=hear))
        make.do_all(deeds)
        return make, keepers[0]

    def test_made_while_a_do_all_goes_on(self):
        for kind in MAKES:
            told = []

            def use(make, keeper):
                for path in ((0,), (1,)):
                    told.append((make.has(path), told_of(refusal_of(keeper.keep, path))))

            deeds = [("name", (), "x"), ("put", (), 0, leaf("y"))]
            make, keeper = self.made_meanwhile(kind, leaf(), deeds, use)
            self.assertEqual(told, [(True, None), (False, ("NoPlace", (1,)))])
            self.assertEqual((keeper.tickets(), keeper.deeds_heard(), keeper.can_back()), (((0, (0,)),), 0, 0))
            make.do(("put", (), 0, leaf("z")))
            self.assertEqual((keeper.where(0), keeper.deeds_heard()), ((1,), 1))
            keeper.back()
            self.assertEqual((keeper.where(0), make.value()), ((0,), ("x", (leaf("y"),))))

            del told[:]
            deeds = [("name", (), "x"), ("out", (1,))]
            make, keeper = self.made_meanwhile(kind, ("a", (leaf("b"), leaf("c"))), deeds, use)
            self.assertEqual(told, [(True, None), (False, ("NoPlace", (1,)))])

    def test_made_while_the_make_settles(self):
        make, keepers = Make(SMALL), []
        make.hear(Notes([], on_settle=lambda: keepers.append(Keeper(make))))
        make.do(("out", (0,)))
        keepers[0].keep((1, 0))
        make.do(("out", (0,)))
        self.assertEqual((keepers[0].where(0), keepers[0].deeds_heard()), ((0, 0), 1))
        self.assertEqual((keepers[1].tickets(), keepers[1].deeds_heard()), ((), 0))

    def test_what_is_told_is_new_each_time(self):
        make = Make(SMALL)
        keeper = Keeper(make)
        keep_all(keeper, SMALL)
        before, took = keeper.tickets(), keeper.takes()
        make.do(("out", (0,)))
        self.assertEqual(before, tuple(enumerate(places_of(SMALL))))
        self.assertEqual(took, ())


class BackTest(RefusalChecks, unittest.TestCase):
    def test_back_behind_every_deed(self):
        for tree in SAMPLES:
            for deed in fitting(tree):
                make = Make(tree)
                keeper = Keeper(make)
                keep_all(keeper, tree)
                before = (keeper.tickets(), keeper.takes())
                make.do(deed)
                self.assertIsNone(keeper.back())
                self.assertEqual(make.value(), tree)
                self.assertEqual((keeper.tickets(), keeper.takes()), before, deed)
                self.assertEqual((keeper.deeds_heard(), keeper.can_back()), (2, 0))
                self.refused(("NothingBack",), keeper.back)

    def test_all_the_way_back(self):
        for kind in MAKES:
            for seed, tree in enumerate(SAMPLES):
                make = kind(tree)
                keeper = Keeper(make)
                keep_all(keeper, tree)
                deeds = deed_row(tree, 12, seed + 90)
                rows = []
                for deed in deeds:
                    rows.append((make.value(), keeper.tickets(), keeper.takes()))
                    make.do(deed)
                for number, row in enumerate(reversed(rows)):
                    self.assertEqual(keeper.can_back(), len(rows) - number)
                    keeper.back()
                    self.assertEqual((make.value(), keeper.tickets(), keeper.takes()), row)
                    self.assertEqual(keeper.deeds_heard(), len(rows) + number + 1)
                self.refused(("NothingBack",), keeper.back)

    def test_to_and_fro(self):
        for kind in MAKES:
            make = kind(SMALL)
            keeper = Keeper(make)
            keep_all(keeper, SMALL)
            make.do_all([("out", (1,)), ("name", (), "y")])
            keeper.back()
            make.do(("unwrap", (0,)))
            self.assertEqual((keeper.deeds_heard(), keeper.can_back()), (4, 2))
            self.assertEqual(keeper.takes(), ((1, 3), (5, 0)))
            keeper.back()
            self.assertEqual(keeper.takes(), ((5, 0),))
            keeper.back()
            self.assertEqual((make.value(), keeper.takes(), keeper.can_back()), (SMALL, (), 0))
            self.assertEqual(keeper.deeds_heard(), 6)

    def test_a_back_takes_what_its_deed_brought(self):
        make = Make(SMALL)
        keeper = Keeper(make)
        make.do(("put", (), 0, ("x", (leaf("y"),))))
        make.do(("wrap", (), 0, 1, "w"))
        tickets = [keeper.keep(path) for path in ((0,), (0, 0), (0, 0, 0), (1,))]
        keeper.back()
        self.assertEqual(keeper.tickets(), ((0, None), (1, (0,)), (2, (0, 0)), (3, (1,))))
        keeper.back()
        self.assertEqual(keeper.tickets(), ((0, None), (1, None), (2, None), (3, (0,))))
        self.assertEqual(keeper.takes(), ((0, 2), (1, 3), (2, 3)))
        self.refused(("Taken", tickets[2], 3), keeper.where, 2)
        # A back is no deed that could be undone by the same keeper.
        self.refused(("NothingBack",), keeper.back)

    def test_what_was_let_go_stands_no_more(self):
        make = Make(SMALL)
        keeper = Keeper(make)
        keep_all(keeper, SMALL)
        make.do(("out", (0,)))
        keeper.let_go(2)
        later = keeper.keep((0,))
        keeper.back()
        self.assertEqual(keeper.tickets(), tuple((ticket, path) for ticket, path in enumerate(places_of(SMALL))
                                                 if ticket != 2) + ((later, (1,)),))
        self.assertEqual(keeper.takes(), ())
        self.refused(("NoTicket", 2), keeper.where, 2)

    def test_only_those_of_the_undone_deed_stand_again(self):
        make = Make(SMALL)
        keeper = Keeper(make)
        keep_all(keeper, SMALL)
        make.do(("out", (0, 1)))
        make.do(("out", (0,)))
        self.assertEqual(keeper.takes(), ((1, 1), (2, 1), (3, 0), (4, 0)))
        keeper.back()
        self.assertEqual(keeper.takes(), ((3, 0), (4, 0)))
        self.assertEqual((keeper.where(1), keeper.where(2)), ((0,), (0, 0)))

    def test_two_keepers_over_one_make(self):
        for kind in MAKES:
            make = kind(SMALL)
            one, other = Keeper(make), Keeper(make)
            one.keep((0, 1))
            other.keep((0, 1))
            behind = ("a", SMALL[1][1:])
            make.do(("out", (0,)))
            self.assertEqual((one.takes(), other.takes()), (((0, 0),), ((0, 0),)))
            one.back()
            self.assertEqual((make.value(), one.where(0), other.takes()), (SMALL, (0, 1), ((0, 0),)))
            self.assertEqual((one.can_back(), other.can_back()), (0, 2))
            other.back()
            self.assertEqual((make.value(), one.takes(), other.takes()), (behind, ((0, 2),), ((0, 0),)))
            self.assertEqual((one.can_back(), other.can_back()), (1, 1))
            one.back()
            self.assertEqual((make.value(), one.where(0), other.takes()), (SMALL, (0, 1), ((0, 0),)))
            self.assertEqual((one.can_back(), other.can_back()), (0, 2))
            other.back()
            other.back()
            self.assertEqual((make.value(), one.takes(), other.where(0)), (SMALL, ((0, 4),), (0, 1)))
            self.assertEqual((one.can_back(), other.can_back()), (2, 0))
            self.assertEqual((one.deeds_heard(), other.deeds_heard()), (6, 6))
            self.refused(("NothingBack",), other.back)

    def test_back_does_what_deed_back_tells(self):
        make, rows = Make(SMALL), []
        keeper = Keeper(make)
        make.hear(Notes(rows))
        make.do(("unwrap", (0,)))
        rows.clear()
        keeper.back()
        behind = ("a", SMALL[1][0][1] + SMALL[1][1:])
        self.assertEqual(rows, [("", "heard", behind, ("wrap", (), 0, 2, "b")), ("", "settle")])

    def test_busy_ahead_of_nothing_back(self):
        for kind in MAKES:
            make, told = kind(SMALL), []
            keeper = Keeper(make)

            def try_back():
                told.append(told_of(refusal_of(keeper.back)))
                told.append(told_of(refusal_of(Keeper(make).back)))

            make.hear(Notes([], on_heard=try_back, on_settle=try_back))
            make.do(("name", (), "z"))
            self.assertEqual(told, [("Busy",)] * 4)
            self.assertEqual((keeper.deeds_heard(), keeper.can_back()), (1, 1))
            keeper.back()
            self.assertEqual(told, [("Busy",)] * 8)
            self.assertEqual((make.value(), keeper.can_back()), (SMALL, 0))

    def test_a_back_is_done_also_where_somebody_raises(self):
        make = Make(SMALL)
        keeper = Keeper(make)
        keeper.keep((0,))
        make.do(("out", (0,)))
        make.do(("name", (), "z"))
        make.hear(Notes([], on_settle=shout))
        for _ in range(2):
            with self.assertRaises(Shout):
                keeper.back()
        self.assertEqual((make.value(), keeper.where(0), keeper.can_back()), (SMALL, (0,), 0))
        with self.assertRaises(Shout):
            make.do(("out", (0,)))
        self.assertEqual((keeper.can_back(), keeper.takes()), (1, ((0, 4),)))

    def test_a_refused_call_leaves_all_as_it_was(self):
        make = Make(fan(60))
        keeper = Keeper(make)
        keep_all(keeper, fan(60))
        before = state_of(keeper)
        self.refused(("TooMany", 61), make.do, ("put", (), 0, leaf()))
        self.refused(("NothingBack",), keeper.back)
        self.refused(("NoTicket", 60), keeper.let_go, 60)
        self.refused(("NoPath",), keeper.keep, None)
        self.assertEqual(state_of(keeper), before)
        self.assertIsInstance(refusal_of(keeper.back), errors.NoFit)


class WatcherTest(RefusalChecks, unittest.TestCase):
    def kept(self, kind=Make, tree=SMALL):
        make = kind(tree)
        keeper = Keeper(make)
        keep_all(keeper, tree)
        return make, keeper, []

    def noting(self, rows, then=None):
        """A watcher that writes down what it is called with, and then does what is told for that call's number."""
        def tell(number, tickets):
            rows.append((number, tickets))
            if then is not None and number in then:
                then[number]()
        return tell

    def test_called_in_order(self):
        for kind in MAKES:
            make, keeper, rows = self.kept(kind)
            self.assertIsNone(keeper.watch(self.noting(rows)))
            make.do(("out", (0, 1)))
            self.assertEqual(rows, [(0, (3, 4))])
            make.do(("name", (), "z"))
            self.assertEqual(rows, [(0, (3, 4))])
            make.do_all([("out", (1,)), ("name", (0,), "y"), ("unwrap", (0,)), ("put", (), 0, leaf()), ("out", (2,))])
            self.assertEqual(rows, [(0, (3, 4)), (2, (5,)), (4, (1,)), (6, (6, 7, 8, 9))])
            self.assertTrue(all(isinstance(tickets, tuple) for _, tickets in rows))

    def test_tickets_rise_whatever_their_places(self):
        make, rows = Make(SMALL), []
        keeper = Keeper(make)
        for path in ((0, 1, 0), (0,), (2,), (0, 1), (0,)):
            keeper.keep(path)
        keeper.watch(self.noting(rows))
        keeper.let_go(3)
        make.do(("out", (0,)))
        self.assertEqual(rows, [(0, (0, 1, 4))])

    def test_called_when_asked_to_settle(self):
        make, keeper, rows = self.kept()
        seen = []
        keeper.watch(lambda number, tickets: seen.append((number, make.value(), keeper.takes())))
        make.hear(Notes(rows, on_heard=lambda: self.assertEqual(seen, [])))
        make.do_all([("out", (0,)), ("out", (0,))])
        behind = ("a", SMALL[1][2:])
        took = ((1, 0), (2, 0), (3, 0), (4, 0), (5, 1))
        self.assertEqual(seen, [(0, behind, took), (1, behind, took)])

    def test_called_behind_a_back(self):
        make, keeper, rows = self.kept()
        make.do(("put", (), 0, leaf("x")))
        ticket = keeper.keep((0,))
        keeper.watch(self.noting(rows))
        keeper.back()
        self.assertEqual(rows, [(1, (ticket,))])

    def test_none_and_none_any_more(self):
        make, keeper, rows = self.kept()
        make.do(("out", (0,)))
        keeper.watch(self.noting(rows))
        make.do(("name", (), "z"))
        self.assertEqual(rows, [])
        make.do(("out", (0,)))
        self.assertEqual(rows, [(2, (5,))])
        keeper.watch(None)
        make.do(("out", (0,)))
        self.assertEqual(len(rows), 1)
        keeper.watch(self.noting(rows))
        make.do(("name", (), "y"))
        self.assertEqual(len(rows), 1)

    def test_the_last_one_made_is_the_watcher(self):
        make, keeper, rows = self.kept()
        others = []
        keeper.watch(self.noting(rows))
        keeper.watch(self.noting(others))
        make.do(("out", (1,)))
        self.assertEqual((rows, others), ([], [(0, (5,))]))

    def test_one_that_raises(self):
        for kind in MAKES:
            make, keeper, rows = self.kept(kind)
            keeper.watch(self.noting(rows, {1: shout}))
            deeds = [("out", (0, 0)), ("out", (1,)), ("out", (1, 0)), ("unwrap", (0,))]
            with self.assertRaises(Shout):
                make.do_all(deeds)
            self.assertEqual(rows, [(0, (2,)), (1, (5,))])
            self.assertEqual(keeper.takes(), ((1, 3), (2, 0), (5, 1), (7, 2)))
            self.assertEqual((keeper.deeds_heard(), keeper.can_back()), (4, 4))
            # Those that were due behind it are made when the keeper is asked next.
            make.do(("out", (1, 0)))
            self.assertEqual(rows[2:], [(2, (7,)), (3, (1,)), (4, (8,))])

    def test_one_that_raises_ends_the_settling(self):
        make, keeper, rows = self.kept()
        keeper.watch(shout)
        make.hear(Notes(rows, "later"))
        deed = ("out", (0,))
        with self.assertRaises(Shout):
            make.do(deed)
        self.assertEqual(rows, [("later", "heard", SMALL, deed)])
        self.refused(("NoDeed",), make.do, None)
        keeper.watch(None)
        make.do(("name", (), "z"))
        self.assertEqual(len(rows), 3)

    def test_a_back_between(self):
        make, keeper, rows = self.kept()
        keeper.watch(self.noting(rows, {0: shout}))
        with self.assertRaises(Shout):
            make.do_all([("out", (1,)), ("out", (0,))])
        keeper.back()
        self.assertEqual(keeper.where(1), (0,))
        self.assertEqual(rows, [(0, (5,)), (1, (1, 2, 3, 4))])
        keeper.back()
        self.assertEqual((make.value(), len(rows)), (SMALL, 2))

    def test_due_calls_of_tickets_let_go_since(self):
        make, keeper, rows = self.kept()
        keeper.watch(self.noting(rows, {0: shout}))
        with self.assertRaises(Shout):
            make.do_all([("out", (1,)), ("out", (1,))])
        keeper.let_go(7)
        make.do(("name", (), "z"))
        self.assertEqual(rows, [(0, (5,)), (1, (6, 7, 8, 9))])

    def test_another_watcher_meanwhile(self):
        make, keeper, rows = self.kept()
        others = []
        keeper.watch(self.noting(rows, {0: lambda: keeper.watch(self.noting(others))}))
        make.do_all([("out", (1,)), ("out", (1,)), ("out", (0,))])
        self.assertEqual((rows, others), ([(0, (5,))], [(1, (6, 7, 8, 9)), (2, (1, 2, 3, 4))]))

    def test_another_watcher_behind_one_that_raised(self):
        make, keeper, rows = self.kept()
        keeper.watch(shout)
        with self.assertRaises(Shout):
            make.do_all([("out", (1,)), ("out", (1,))])
        keeper.watch(self.noting(rows))
        make.do(("name", (), "z"))
        self.assertEqual(rows, [(1, (6, 7, 8, 9))])

    def test_no_watcher_meanwhile(self):
        make, keeper, rows = self.kept()
        keeper.watch(self.noting(rows, {0: lambda: keeper.watch(None)}))
        make.do_all([("out", (1,)), ("out", (1,)), ("out", (0,))])
        self.assertEqual(rows, [(0, (5,))])
        keeper.watch(self.noting(rows))
        make.do(("name", (), "z"))
        self.assertEqual(rows, [(0, (5,))])

    def test_busy_meanwhile(self):
        for kind in MAKES:
            make, keeper, rows = self.kept(kind)
            told = []

            def try_deeds():
                for call in (lambda: make.do(("out", (0,))), lambda: make.do_all([]), keeper.back):
                    told.append(told_of(refusal_of(call)))

            keeper.watch(self.noting(rows, {0: try_deeds}))
            make.do(("out", (1,)))
            self.assertEqual((rows, told), ([(0, (5,))], [("Busy",)] * 3))
            self.assertEqual(make.many(()), 2)

    def test_the_keeper_may_be_asked_meanwhile(self):
        make, keeper, rows = self.kept()

        def use():
            self.refused(("Taken", 5, 0), keeper.where, 5)
            keeper.let_go(5)
            self.assertEqual(keeper.keep((1, 0)), 10)

        keeper.watch(self.noting(rows, {0: use}))
        make.do(("out", (1,)))
        self.assertEqual((len(keeper), keeper.where(10), keeper.takes()), (10, (1, 0), ()))

    def test_two_keepers_have_watchers_of_their_own(self):
        make, keeper, rows = self.kept()
        other = Keeper(make)
        other.keep((1,))
        others = []
        keeper.watch(self.noting(rows))
        other.watch(self.noting(others))
        make.do(("name", (), "z"))
        make.do(("out", (1,)))
        self.assertEqual((rows, others), ([(1, (5,))], [(1, (0,))]))


if __name__ == "__main__":
    unittest.main()
