"""The deeds of a matching, differences and what deeds cost [49], NEAR [50]; [4]'s word on differences."""

import itertools
import unittest

from tests.grown import mixed_tree, retagged, shapes
from tests.model import every_deed, judged, why_not
from tests.refusals import RefusalChecks, refusal_of
from tests.samples import ODDITIES, SMALL, fan, leaf, line, stair, very_many
from tests.test_matching import all_matchings
from treelore import errors
from treelore.costs import cost_between
from treelore.deeds import done
from treelore.differ import EVEN, cost_of_deeds, deeds_of, difference
from treelore.leading import led
from treelore.matching import cost_of, least_matching, top_matching
from treelore.trees import part_of, places_of

COSTS = [EVEN, (1, 2, 3), (3, 1, 1), (100, 7, 50)]
SOME = [retagged(shape, number) for size in range(1, 5) for number, shape in enumerate(shapes(size))]


def plain_deeds(one, other, matching):
    """[49] by its words."""
    partner = {place: path for path, place in matching}
    names = [("name", path, part_of(other, place)[0]) for path, place in matching
             if part_of(one, path)[0] != part_of(other, place)[0]]
    unwraps = [("unwrap", path) for path in sorted(places_of(one), reverse=True) if path not in partner.values()]
    wraps = []
    for place in places_of(other):
        if place not in partner:
            tops, rows = 0, [place + (at,) for at in range(len(part_of(other, place)[1]))]
            while rows:
                inner = rows.pop()
                if inner in partner:
                    tops += 1
                else:
                    rows += [inner + (at,) for at in range(len(part_of(other, inner)[1]))]
            wraps.append(("wrap", place[:-1], place[-1], tops, part_of(other, place)[0]))
    return tuple(names + unwraps + wraps)


class DeedsTest(RefusalChecks, unittest.TestCase):
    def check_deeds(self, one, other, matching):
        deeds = deeds_of(one, other, matching)
        self.assertEqual(deeds, plain_deeds(one, other, matching))
        tree, where = one, {path: path for path, place in matching}
        for deed in deeds:
            self.assertIsNone(why_not(tree, deed))
            where = {path: led(tree, deed, there) for path, there in where.items()}
            tree = done(tree, deed)
        self.assertEqual(tree, other)
        self.assertEqual(where, dict(matching))
        for costs in COSTS:
            self.assertEqual(cost_of_deeds(costs, deeds), cost_of(one, other, costs, matching))

    def test_of_all_matchings_of_small_trees(self):
        for one, other in itertools.product(SOME, SOME):
            for matching in all_matchings(one, other):
                self.check_deeds(one, other, matching)

    def test_of_large_trees(self):
        trees = [mixed_tree(seed, 60) for seed in range(4)] + [fan(60), line(12), stair(12), leaf("z")]
        for one, other in itertools.product(trees, trees):
            self.check_deeds(one, other, top_matching(one, other))
            self.check_deeds(one, other, (((), ()),))

    def test_refusals_in_their_order(self):
        for thing in ODDITIES:
            self.refused(("NoTree",), deeds_of, thing, SMALL, None)
            self.refused(("NoTree",), deeds_of, SMALL, thing, None)
            self.refused(("NoMatching", "matching"), deeds_of, SMALL, SMALL, thing)
        self.refused(("NoMatching", "matching"), deeds_of, SMALL, SMALL, (((), ()), ((0,), (1,)), ((1,), (0,))))


class DifferenceTest(RefusalChecks, unittest.TestCase):
    def test_leads_the_one_into_the_other(self):
        trees = [mixed_tree(seed, size) for seed, size in enumerate((12, 12, 12, 9, 7, 12))] + [SMALL, line(12), fan(12)]
        for one, other in itertools.product(trees, trees):
            for costs in COSTS:
                deeds = difference(one, other, costs=costs)
                tree = one
                for deed in deeds:
                    tree = done(tree, deed)
                self.assertEqual(tree, other)
                self.assertEqual(deeds, deeds_of(one, other, least_matching(one, other, costs)))
                self.assertEqual(cost_of_deeds(costs, deeds), cost_between(one, other, costs))
            self.assertEqual(difference(one, other), difference(one, other, costs=EVEN))

    def test_no_row_of_such_deeds_is_cheaper(self):
        small = [tree for tree in SOME if len(places_of(tree)) < 4]
        tags = ("a", "b")
        for costs in (EVEN, (3, 1, 1), (1, 2, 3)):
            for one in small:
                best = {one: 0}
                waiting = [one]
                while waiting:
                    # All that is reached from the tree by names, unwraps and wraps within five places.
                    waiting = sorted(waiting, key=best.get)
                    tree = waiting.pop(0)
                    for deed in every_deed(tree):
                        if deed[0] not in ("name", "unwrap", "wrap") or why_not(tree, deed) is not None:
                            continue
                        for tag in tags if deed[0] != "unwrap" else ("",):
                            each = deed if deed[0] == "unwrap" else deed[:-1] + (tag,)
                            behind = judged(tree, each)[0]
                            cost = best[tree] + cost_of_deeds(costs, (each,))
                            if len(places_of(behind)) < 5 and cost < best.get(behind, 10 ** 9):
                                best[behind] = cost
                                waiting.append(behind)
                for other in small:
                    self.assertEqual(cost_of_deeds(costs, difference(one, other, costs=costs)), best[other])

    def test_alike(self):
        self.assertEqual(difference(SMALL, SMALL), ())
        self.assertEqual(difference(leaf("a"), leaf("b")), (("name", (), "b"),))

    def test_refused_as_tables(self):
        for thing in ODDITIES:
            self.refused(("NoTree",), difference, thing, SMALL)
            self.refused(("NoTree",), difference, SMALL, thing)
            self.refused(("NoCosts", "costs"), lambda costs: difference(fan(13), SMALL, costs=costs), thing)
        self.refused(("TooMany", 60), difference, fan(60), fan(13))
        self.refused(("TooMany", 13), difference, fan(12), fan(13))


class CostOfDeedsTest(RefusalChecks, unittest.TestCase):
    def test_each_word(self):
        deeds = (("name", (0, 1), "z"), ("unwrap", (5,)), ("wrap", (), 0, 60, "ab"), ("unwrap", ()))
        self.assertEqual([cost_of_deeds((1, 10, 100), deeds[:many]) for many in range(5)], [0, 1, 11, 111, 121])

    def test_no_deeds(self):
        right = (("name", (), "z"), ("unwrap", (5,)))
        for thing in [None, [], list(right), "name", {}, 0, True]:
            self.refused(("NoDeed",), cost_of_deeds, EVEN, thing)
        others = [("put", (), 0, leaf()), ("out", (0,)), ("move", (0,), (1,), 0), ("swap", (0,), (1,)), ("name", (), "Z"),
                  ("unwrap", [0]), ["unwrap", (0,)], ("wrap", (), 0, True, "a"), None, very_many(), ("name", very_many(), "a")]
        for thing in others:
            for at in range(3):
                self.refused(("NoDeed",), cost_of_deeds, EVEN, right[:at] + (thing,) + right[at:])

    def test_costs_come_first(self):
        for thing in ODDITIES:
            self.refused(("NoCosts", "costs"), cost_of_deeds, thing, None)
        self.assertIsInstance(refusal_of(cost_of_deeds, (0, 1, 1), ()), errors.NoThing)


if __name__ == "__main__":
    unittest.main()
