"""Tied rows: [19], [20], [21]."""

import unittest

from tests.refusals import RefusalChecks, refusal_of
from tests.samples import very_many
from treelore import errors
from treelore.tied import TIED, fresh, is_even, item_at, items_of, out_at, parted, put_at, steps_of, tied, tied_both

ITEMS = ["a", 0, -7, "", (), ("b", 1), (1, 2, 3, 4, 5, 6, 7, 8), 10 ** 59, "A b\n", ("",) * 8, 7, 8, 9]

# Things that are no items.
NO_ITEMS = [
    None, True, False, [], ["a"], {}, {"a": 1}, (True,), (1, False), (None,), ((),), ((1,),), ([1],), ({},), (1,) * 9,
    ("a",) * 10 ** 5, very_many(), very_many(made=list),
]


def count(tie):
    return 0 if tie is None else tie[3]


def leaning(items, sides):
    """The tie that leans as far as an even one may, to the sides as they are told from the top down, again and again."""
    many = len(items)
    if many == 0:
        return None
    light = next(few for few in range(many) if many - few <= 3 * (few + 1))
    left = light if sides[0] == "r" else many - 1 - light
    further = sides[1:] + sides[:1]
    return (leaning(items[:left], further), items[left], leaning(items[left + 1:], further), many)


LEANS = ("l", "r", "lr", "rl", "llr", "rrl")


def ties_of(items):
    return [tied(items)] + [leaning(items, sides) for sides in LEANS]


def within(tie):
    """All ties within a tie, itself too."""
    return [] if tie is None else [tie] + within(tie[0]) + within(tie[2])


def new_ties(tie, some):
    known = set()
    for one in some:
        known.update(within(one))
    return len(set(within(tie)) - known)


def levels_of(tie):
    return 0 if tie is None else 1 + max(levels_of(tie[0]), levels_of(tie[2]))


def bent(tie, bend):
    """The tie with each of the ties within it bent, by itself."""
    if tie is None:
        return
    left, item, right, many = tie
    yield from bend(tie)
    for other in bent(left, bend):
        yield (other, item, right, many)
    for other in bent(right, bend):
        yield (left, item, other, many)


class EvenChecks(RefusalChecks):
    def check_even(self, tie, items):
        """The tie is even by the words of [19], and has these items."""
        self.assertIs(is_even(tie), True)
        self.assertEqual(items_of(tie), items)
        for one in within(tie):
            self.assertIsInstance(one, tuple)
            left, item, right, many = one
            self.assertEqual(many, count(left) + 1 + count(right))
            self.assertLessEqual(count(left) + 1, 3 * (count(right) + 1))
            self.assertLessEqual(count(right) + 1, 3 * (count(left) + 1))
        self.assertLessEqual(levels_of(tie), steps_of(len(items)))

    def refused_by_all(self, thing):
        """Whatever is asked of that thing is refused with NoTie."""
        for call, things in ((items_of, (thing,)), (item_at, (thing, 0)), (put_at, (thing, 0, "x")), (out_at, (thing, 0)),
                             (parted, (thing, 0)), (tied_both, (thing, None)), (tied_both, (None, thing)),
                             (fresh, (thing, [])), (fresh, (None, [None, thing])), (item_at, (thing, None)),
                             (put_at, (thing, None, None)), (out_at, (thing, True)), (parted, (thing, "0"))):
            self.refused(("NoTie",), call, *things)


class TiedTest(EvenChecks, unittest.TestCase):
    def test_made_of_lists_and_tuples(self):
        for many in list(range(40)) + [100, 999, 1000]:
            items = list(range(many))
            self.check_even(tied(items), items)
            self.check_even(tied(tuple(items)), items)
        for items in (ITEMS, [item for item in ITEMS for _ in range(3)], ["a"] * 1000):
            self.check_even(tied(items), items)

    def test_small_ones(self):
        self.assertIsNone(tied([]))
        self.assertIsNone(tied(()))
        self.assertEqual(tied(["a"]), (None, "a", None, 1))
        self.assertEqual(items_of(None), [])
        for item in ITEMS:
            self.assertIs(is_even((None, item, None, 1)), True)

    def test_what_none_is_made_of(self):
        for thing in [None, True, 0, 1, "", "abc", {}, {"a": 1}, [None], (None,), ["a"] * 1001, ("a",) * 1001, very_many(),
                      (very_many(),), [very_many(made=list)], ["a"] * 10 ** 6]:
            self.refused(("NoTie",), tied, thing)
        for item in NO_ITEMS:
            for at in (0, 5, len(ITEMS)):
                self.refused(("NoTie",), tied, ITEMS[:at] + [item] + ITEMS[at:])
        self.assertIsInstance(refusal_of(tied, None), errors.NoThing)
        self.assertEqual(TIED, 1000)

    def test_the_list_is_left_as_it_is_and_may_be_changed(self):
        items = ["a", "b", "c"]
        tie = tied(items)
        self.assertEqual(items, ["a", "b", "c"])
        items.append("d")
        told = items_of(tie)
        self.assertEqual(told, ["a", "b", "c"])
        told.clear()
        self.assertEqual(items_of(tie), ["a", "b", "c"])

    def test_leaning_ones_are_even(self):
        for many in list(range(30)) + [1000]:
            items = list(range(many))
            for tie in ties_of(items):
                self.check_even(tie, items)

    def test_uneven_by_one(self):
        for many in range(4, 60):
            items = list(range(many))
            tie = leaning(items, "r")
            light = count(tie[0])
            # One more on the light side stays even, one less is uneven.
            for few, even in ((light, True), (light - 1, False)):
                if few >= 0:
                    for left, right in ((items[:few], items[few + 1:]), (items[:many - few - 1], items[many - few:])):
                        thing = (tied(left), items[len(left)], tied(right), many)
                        self.assertIs(is_even(thing), even, (many, few))
                        if not even:
                            self.refused_by_all(thing)

    def test_bent_at_each_depth(self):
        def bend(tie):
            left, item, right, many = tie
            for wrong in (many + 1, many - 1, 0, -1, 10 ** 59, None, str(many), (many,)):
                yield (left, item, right, wrong)
            if many == 1:
                yield (left, item, right, True)
                yield (False, item, None, 1)
                yield ((), item, None, 1)
                yield (None, item, [], 1)
            for other in NO_ITEMS:
                yield (left, other, right, many)
            yield from ([left, item, right, many], (left, item, right), (left, item, right, many, 0), (), many, "a", True,
                        {}, (left, right, item, many))
            items = items_of(tie)
            if many > 3:
                yield (None, items[0], tied(items[1:]), many)
                yield (tied(items[:-1]), items[-1], None, many)

        for tie in (tied(["a"]), tied(list(range(5))), tied([str(at) for at in range(11)]), leaning(list(range(20)), "rl")):
            for thing in bent(tie, bend):
                self.assertIs(is_even(thing), False)
                self.refused(("NoTie",), items_of, thing)
        for thing in bent(tied(list(range(6))), bend):
            self.refused_by_all(thing)

    def test_too_many_items(self):
        items = list(range(1001))
        for sides in LEANS:
            self.assertIs(is_even(leaning(items[:1000], sides)), True)
            self.assertIs(is_even(leaning(items, sides)), False)
        thing = (tied(items[:500]), 500, tied(items[501:]), 1001)
        self.assertIs(is_even(thing), False)
        self.refused_by_all(thing)

    def test_the_same_part_at_very_many_places(self):
        for many in (1, 3, 1000, 2 ** 58):
            thing, honest = None, None
            for level in range(58):
                thing = (thing, "a", thing, many)
                honest = (honest, "a", honest, 2 ** (level + 1) - 1)
            self.assertIs(is_even(thing), False)
            self.assertIs(is_even(honest), False)
            self.refused_by_all(honest)
            self.assertIs(is_even((thing, "a", None, 1)), False)
            self.assertIs(is_even((None, "a", thing, 1)), False)
        shared = None
        for level in range(9):
            shared = (shared, "a", shared, 2 ** (level + 1) - 1)
        self.assertIs(is_even(shared), True)
        self.assertEqual(items_of(shared), ["a"] * 511)
        lists = None
        for _ in range(58):
            lists = [lists, "a", lists, 1]
        self.assertIs(is_even(lists), False)
        self.assertIs(is_even(very_many()), False)
        chain = None
        for level in range(58):
            chain = (chain, "a", None, level + 1)
        self.assertIs(is_even(chain), False)

    def test_oddities_are_none(self):
        for thing in [True, False, 0, 1, "", "a", [], {}, (), (None,), [None, "a", None, 1], (None, "a", None), {"a": None}]:
            self.assertIs(is_even(thing), False)
            self.refused_by_all(thing)


class DeedsOnTiesTest(EvenChecks, unittest.TestCase):
    def seats(self, many):
        return sorted({0, 1, many // 3, many // 2, many - 1, many} & set(range(many + 1)))

    def bound(self, many):
        return 8 + 8 * steps_of(many)

    def test_as_lists_would(self):
        for many in list(range(14)) + [50, 131, 400, 999, 1000]:
            items = list(range(many))
            for tie in ties_of(items):
                for at in self.seats(many) if many > 13 else range(many + 1):
                    self.check_deeds(tie, items, at)

    def check_deeds(self, tie, items, at):
        many = len(items)
        if many < 1000:
            more = put_at(tie, at, "new")
            self.check_even(more, items[:at] + ["new"] + items[at:])
            self.assertLessEqual(new_ties(more, [tie]), self.bound(many))
        if at < many:
            self.assertEqual(item_at(tie, at), items[at])
            less = out_at(tie, at)
            self.check_even(less, items[:at] + items[at + 1:])
            self.assertLessEqual(new_ties(less, [tie]), self.bound(many))
        first, rest = parted(tie, at)
        self.check_even(first, items[:at])
        self.check_even(rest, items[at:])
        self.assertLessEqual(new_ties(first, [tie]) + new_ties(rest, [tie]), self.bound(many))
        for one, other, told in ((first, rest, items), (rest, first, items[at:] + items[:at])):
            both = tied_both(one, other)
            self.check_even(both, told)
            self.assertLessEqual(new_ties(both, [one, other]), self.bound(many))

    def test_joined_of_unlike_weights(self):
        for one_many in (0, 1, 2, 7, 60, 500):
            for other_many in (0, 1, 3, 30, 499, 500):
                left = list(range(one_many))
                right = [str(at) for at in range(other_many)]
                for sides in LEANS:
                    one, other = leaning(left, sides), leaning(right, sides[::-1])
                    both = tied_both(one, other)
                    self.check_even(both, left + right)
                    self.assertLessEqual(new_ties(both, [one, other]), self.bound(one_many + other_many))

    def test_rows_of_deeds(self):
        seed = 5
        items, tie = [], None
        for step in range(700):
            seed = (seed * 1103515245 + 12345) & 0x7FFFFFFF
            at = (seed >> 8) % (len(items) + 1)
            if step < 300 or (seed >> 4) % 3 == 0:
                item = ITEMS[step % len(ITEMS)]
                tie = put_at(tie, at, item)
                items.insert(at, item)
            elif (seed >> 4) % 3 == 1 and at < len(items):
                tie = out_at(tie, at)
                del items[at]
            else:
                first, rest = parted(tie, at)
                tie = tied_both(rest, first)
                items = items[at:] + items[:at]
            if step % 10 == 0:
                self.check_even(tie, items)
        self.check_even(tie, items)

    def test_at_one_end_again_and_again(self):
        for at_end in (False, True):
            tie, items = None, []
            for number in range(300):
                seat = len(items) if at_end else 0
                tie = put_at(tie, seat, number)
                items.insert(seat, number)
            self.check_even(tie, items)
            while items:
                seat = 0 if at_end else len(items) - 1
                tie = out_at(tie, seat)
                del items[seat]
                if len(items) % 7 == 0:
                    self.check_even(tie, items)

    def test_what_is_handed_in_stays(self):
        tie = tied(["a", "b", "c"])
        put_at(tie, 1, "x")
        out_at(tie, 0)
        parted(tie, 2)
        tied_both(tie, tie)
        self.assertEqual(items_of(tie), ["a", "b", "c"])

    def test_two_ties_told(self):
        told = parted(tied(["a", "b"]), 1)
        self.assertEqual(len(told), 2)
        self.assertEqual([items_of(one) for one in told], [["a"], ["b"]])
        self.assertEqual(list(parted(None, 0)), [None, None])

    def test_no_item(self):
        for many in (0, 1, 5):
            tie = tied(list(range(many)))
            for at in (-1, many + 1, True, False, None, "0", "", [], [0], (0,), {}, 10 ** 59, -10 ** 59, very_many()):
                for call, things in ((item_at, ()), (out_at, ()), (parted, ()), (put_at, ("x",)), (put_at, (None,)),
                                     (put_at, (very_many(),))):
                    self.refused(("NoItem", at), call, tie, at, *things)
            for call in (item_at, out_at):
                self.refused(("NoItem", many), call, tie, many)
        self.assertIsInstance(refusal_of(item_at, None, 0), errors.NoFit)

    def test_put_no_item_or_one_too_many(self):
        tie = tied(ITEMS)
        for item in NO_ITEMS:
            for at in (0, 4, len(ITEMS)):
                self.refused(("NoTie",), put_at, tie, at, item)
        full = tied(list(range(1000)))
        for at in (0, 500, 1000):
            self.refused(("NoTie",), put_at, full, at, "x")
        self.refused(("NoItem", 1001), put_at, full, 1001, "x")
        self.refused(("NoTie",), put_at, full, 0, None)
        self.check_even(put_at(out_at(full, 999), 999, "x"), list(range(999)) + ["x"])

    def test_joined_beyond_the_bound(self):
        one, other = tied(list(range(600))), tied(list(range(400)))
        self.assertEqual(items_of(tied_both(one, other)), list(range(600)) + list(range(400)))
        self.refused(("NoTie",), tied_both, one, put_at(other, 0, "x"))
        self.refused(("NoTie",), tied_both, put_at(other, 0, "x"), one)
        full = tied(list(range(1000)))
        self.assertEqual(items_of(tied_both(full, None)), list(range(1000)))
        self.assertEqual(items_of(tied_both(None, full)), list(range(1000)))
        self.refused(("NoTie",), tied_both, full, tied(["x"]))


class StepsAndFreshTest(EvenChecks, unittest.TestCase):
    def test_steps(self):
        for many, steps in ((0, 1), (1, 2), (2, 3), (3, 4), (4, 4), (5, 5), (10, 7), (60, 12), (100, 14), (1000, 22)):
            self.assertEqual(steps_of(many), steps, many)
        for many in range(1000):
            self.assertIn(steps_of(many + 1) - steps_of(many), (0, 1))

    def test_fresh(self):
        one, two, three = tied(["a"]), tied(["b"]), tied(["c"])
        both = (one, "x", two, 3)
        self.assertEqual(fresh(both, []), 3)
        self.assertEqual(fresh(both, [one]), 2)
        self.assertEqual(fresh(both, [two, one]), 1)
        self.assertEqual(fresh(both, [both]), 0)
        self.assertEqual(fresh(both, [(one, "x", three, 3)]), 2)
        self.assertEqual(fresh(one, [both]), 0)
        self.assertEqual(fresh(three, [both, None]), 1)
        self.assertEqual(fresh(None, []), 0)
        self.assertEqual(fresh(None, [None, both]), 0)
        self.assertEqual(fresh(both, [None]), 3)

    def test_the_same_is_what_is_equal(self):
        again = (tied(["".join(["a"])]), "x", tied(["b"]), 3)
        self.assertEqual(fresh(again, [tied(["b"]), tied(["a"])]), 1)
        self.assertEqual(fresh(tied([1]), [tied(["1"])]), 1)
        self.assertEqual(fresh(tied([(1,)]), [tied([1])]), 1)
        # The same items in another shape are no same tie.
        self.assertEqual(fresh((None, "a", tied(["b"]), 2), [(tied(["a"]), "b", None, 2)]), 2)

    def test_fresh_by_counting(self):
        items = list(range(200))
        for tie in ties_of(items):
            for at in (0, 77, 200):
                more = put_at(tie, at, "x")
                first, rest = parted(tie, at)
                for one, some in ((more, [tie]), (tie, [more]), (first, [tie]), (rest, [tie]), (tie, [first, rest]),
                                  (tie, []), (more, [first, rest])):
                    self.assertEqual(fresh(one, some), new_ties(one, some))

    def test_fresh_of_no_ties(self):
        for thing in (None, (), (None,), "a", 0, True, {}, very_many()):
            self.refused(("NoTie",), fresh, None, thing)
        self.refused(("NoTie",), fresh, None, [None, ()])
        some = [tied(["a"])]
        fresh(tied(["b"]), some)
        self.assertEqual(some, [(None, "a", None, 1)])


if __name__ == "__main__":
    unittest.main()
