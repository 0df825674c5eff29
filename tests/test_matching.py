"""Matchings and their cost [45], the told one of least cost [48], NEAR [50], top matchings [55]."""

import itertools
import unittest

from tests.grown import mixed_tree, retagged, shapes
from tests.refusals import RefusalChecks, refusal_of
from tests.samples import ODDITIES, SAMPLES, SMALL, fan, leaf, line, stair, very_many
from treelore import errors
from treelore.costs import cost_between
from treelore.matching import cost_of, is_matching, is_top, least_matching, top_matching
from treelore.trees import part_of, places_of, size_of

EVEN = (1, 1, 1)
COSTS = [EVEN, (1, 2, 3), (3, 1, 1), (100, 7, 50), (2, 100, 1)]
SOME = [tree for size in range(1, 5) for number, shape in enumerate(shapes(size)) for tree in [retagged(shape, number + size)]]
FIVES = [retagged(shape, number) for number, shape in enumerate(shapes(5)) if number % 2 == 0]


def beneath(path, other):
    return len(path) > len(other) and path[:len(other)] == other


def plainly_matching(pairs):
    """[45] by its words, of a list of pairs of places."""
    for one, other in itertools.permutations(pairs, 2):
        if one[0] == other[0] or one[1] == other[1]:
            return False
        if beneath(one[0], other[0]) != beneath(one[1], other[1]) or (one[0] < other[0]) != (one[1] < other[1]):
            return False
    return True


def all_matchings(one, other):
    """All matchings of two small trees."""
    rows = [[((), ())]]
    for path in places_of(one)[1:]:
        rows += [row + [(path, place)] for row in rows for place in places_of(other)[1:]
                 if plainly_matching(row + [(path, place)])]
    return [tuple(row) for row in rows]


def plain_cost(one, other, costs, matching):
    name, out, into = costs
    cost = sum(name for path, place in matching if part_of(one, path)[0] != part_of(other, place)[0])
    cost += sum(out for path in places_of(one) if path not in [pair[0] for pair in matching])
    return cost + sum(into for place in places_of(other) if place not in [pair[1] for pair in matching])


def plainly_top(matching):
    return all((path[:-1], place[:-1]) in matching for path, place in matching if (path, place) != ((), ()))


def cheapest_top(one, other):
    """The least cost of a top matching by costs of 1, reckoned from the ends of the kids' rows."""
    cost = int(one[0] != other[0])
    known = {}

    def rest(a, b):
        if (a, b) not in known:
            if a == len(one[1]) or b == len(other[1]):
                known[a, b] = sum(map(size_of, one[1][a:])) + sum(map(size_of, other[1][b:]))
            else:
                known[a, b] = min(size_of(one[1][a]) + rest(a + 1, b), size_of(other[1][b]) + rest(a, b + 1),
                                  cheapest_top(one[1][a], other[1][b]) + rest(a + 1, b + 1))
        return known[a, b]

    return cost + rest(0, 0)


class IsMatchingTest(RefusalChecks, unittest.TestCase):
    def test_all_of_small_trees(self):
        for one, other in itertools.product(SOME[:9], SOME[:9]):
            right = all_matchings(one, other)
            for matching in right:
                self.assertIs(is_matching(one, other, matching), True)
                self.assertIs(is_top(one, other, matching), plainly_top(matching))
            pairs = [(path, place) for path in places_of(one) for place in places_of(other)]
            for many in range(4):
                for row in itertools.combinations(pairs, many):
                    self.assertIs(is_matching(one, other, row), row in right)

    def test_beneath_and_ahead_on_one_side_alone(self):
        one = ("a", (("b", (leaf("c"),)), leaf("d")))
        other = ("a", (leaf("b"), leaf("c"), leaf("d")))
        top = ((), ())
        self.assertTrue(is_matching(one, other, (top, ((0,), (0,)), ((1,), (1,)))))
        for row in ([((0,), (0,)), ((0, 0), (1,))], [((0,), (1,)), ((1,), (0,))], [((0,), (0,)), ((1,), (0,))],
                    [((0,), (0,)), ((0,), (1,))]):
            self.assertFalse(is_matching(one, other, (top, *row)))
            turned = tuple((place, path) for path, place in [top] + row)
            self.assertFalse(is_matching(other, one, turned))
        self.assertTrue(is_matching(one, other, (top, ((0, 0), (2,)))))
        self.assertFalse(is_top(one, other, (top, ((0, 0), (2,)))))
        self.assertFalse(is_top(other, one, (top, ((2,), (0, 0)))))

    def test_bent_at_each_place(self):
        right = tuple((path, path) for path in places_of(SMALL))
        self.assertTrue(is_matching(SMALL, SMALL, right))
        self.assertTrue(is_top(SMALL, SMALL, right))
        for at, (path, place) in enumerate(right):
            ahead, behind = right[:at], right[at + 1:]
            swaps = [[path, place], (path,), (path, place, place), (path, list(place)), (list(path), place), None, (), path,
                     (path + (7,), place), (path, place + (7,)), (path, None), (True, place), (path, "0")]
            if path:
                swaps += [(path[:-1] + (True,), place), (path, place[:-1] + (False,)), (path, ())]
            for thing in swaps:
                for judge in (is_matching, is_top):
                    self.assertIs(judge(SMALL, SMALL, ahead + (thing,) + behind), False, thing)
            self.assertFalse(is_matching(SMALL, SMALL, ahead + ((path, place),) * 2 + behind))
            if behind:
                self.assertFalse(is_matching(SMALL, SMALL, ahead + behind[:1] + ((path, place),) + behind[1:]))
            without = ahead + behind
            # What is left out leaves a matching, but of the first pair; a top one where nothing is beneath it.
            self.assertIs(is_matching(SMALL, SMALL, without), path != ())
            kids = [pair for pair in right if pair[0][:-1] == path and pair[0]]
            self.assertIs(is_top(SMALL, SMALL, without), path != () and not kids)
        self.assertFalse(is_matching(SMALL, SMALL, list(right)))
        self.assertFalse(is_matching(SMALL, SMALL, right[::-1]))

    def test_anything(self):
        for thing in ODDITIES + [(), ((),), ((), ()), (((), ()),) * 2, ((very_many(), very_many()),), (((), ()), ((0,), {})),
                                 tuple((path, path) for path in places_of(fan(60))), ((), ()) * 40]:
            for judge in (is_matching, is_top):
                self.assertIs(judge(SMALL, SMALL, thing), False)
        for judge in (is_matching, is_top):
            self.assertIs(judge(leaf(), leaf("z"), (((), ()),)), True)

    def test_no_tree(self):
        for thing in ODDITIES:
            for call in (is_matching, is_top):
                self.refused(("NoTree",), call, thing, SMALL, None)
                self.refused(("NoTree",), call, SMALL, thing, None)
            self.refused(("NoTree",), top_matching, thing, SMALL)
            self.refused(("NoTree",), top_matching, SMALL, thing)


class CostTest(RefusalChecks, unittest.TestCase):
    def test_by_costs(self):
        for one, other in itertools.product(SOME[:9], SOME[4:9]):
            for matching in all_matchings(one, other):
                for costs in COSTS:
                    self.assertEqual(cost_of(one, other, costs, matching), plain_cost(one, other, costs, matching))

    def test_refusals_in_their_order(self):
        pair = (((), ()),)
        for thing in ODDITIES:
            self.refused(("NoTree",), cost_of, thing, SMALL, None, None)
            self.refused(("NoTree",), cost_of, SMALL, thing, None, None)
            self.refused(("NoCosts", "costs"), cost_of, SMALL, SMALL, thing, None)
            self.refused(("NoMatching", "matching"), cost_of, SMALL, SMALL, EVEN, thing)
            self.refused(("NoTree",), least_matching, thing, SMALL, None)
            self.refused(("NoTree",), least_matching, SMALL, thing, None)
            self.refused(("NoCosts", "costs"), least_matching, fan(13), SMALL, thing)
        self.refused(("NoCosts", "costs"), cost_of, SMALL, SMALL, (1, 1, 101), pair)
        self.refused(("TooMany", 13), least_matching, fan(13), fan(60), EVEN)
        self.refused(("TooMany", 60), least_matching, fan(12), fan(60), EVEN)
        self.assertIsInstance(refusal_of(cost_of, SMALL, SMALL, EVEN, ()), errors.NoThing)
        self.assertIsInstance(refusal_of(least_matching, fan(13), SMALL, EVEN), errors.NoFit)
        # A matching may be weighed whatever the size.
        self.assertEqual(cost_of(fan(60), leaf("b"), (1, 2, 3), pair), 1 + 2 * 59)


class LeastTest(unittest.TestCase):
    def test_against_all_matchings(self):
        for one, other in itertools.product(SOME, SOME):
            everyone = all_matchings(one, other)
            for costs in COSTS:
                told = least_matching(one, other, costs)
                self.assertIn(told, everyone)
                least = min(plain_cost(one, other, costs, matching) for matching in everyone)
                self.assertEqual(cost_of(one, other, costs, told), least)

    def test_its_cost_is_the_least_one_between(self):
        trees = [mixed_tree(seed, 12) for seed in range(8)] + [line(12), fan(12), stair(6), SMALL] + FIVES
        for number, one in enumerate(trees):
            for other in trees[number:]:
                for costs in COSTS[:4]:
                    told = least_matching(one, other, costs)
                    self.assertTrue(is_matching(one, other, told))
                    self.assertEqual(cost_of(one, other, costs, told), cost_between(one, other, costs))
                    self.assertEqual(least_matching(one, other, costs), told)

    def test_alike_trees(self):
        for tree in SAMPLES:
            self.assertEqual(least_matching(tree, tree, EVEN), tuple((path, path) for path in places_of(tree)))


class TopTest(unittest.TestCase):
    def test_against_all_top_ones(self):
        for one, other in itertools.product(SOME + FIVES[:3], SOME + FIVES[:3]):
            tops = [matching for matching in all_matchings(one, other) if plainly_top(matching)]
            told = top_matching(one, other)
            self.assertIn(told, tops)
            self.assertEqual(cost_of(one, other, EVEN, told), min(plain_cost(one, other, EVEN, top) for top in tops))
            self.assertEqual(top_matching(one, other), told)

    def test_of_trees_of_sixty_places(self):
        trees = [mixed_tree(seed, 60) for seed in range(6)] + [mixed_tree(9, 60, deep=2), fan(60), stair(12), line(12), leaf()]
        for one, other in itertools.product(trees, trees):
            told = top_matching(one, other)
            self.assertTrue(is_top(one, other, told))
            self.assertEqual(cost_of(one, other, EVEN, told), cheapest_top(one, other))
            self.assertEqual(top_matching(one, other), told)

    def test_of_a_tree_and_itself(self):
        for tree in SAMPLES + [mixed_tree(3, 60), fan(60)]:
            self.assertEqual(top_matching(tree, tree), tuple((path, path) for path in places_of(tree)))


if __name__ == "__main__":
    unittest.main()
