"""Costs and walks behind [44], spans [46], worths and tables [47], the told table and the least cost [48], NEAR [50]."""

import functools
import unittest

from tests.refusals import RefusalChecks, refusal_of
from tests.samples import ODDITIES, SAMPLES, SMALL, fan, leaf, line, stair, very_many
from treelore import errors
from treelore.costs import COST, NEAR, cost_between, is_costs, lows_of, right_table, table_of, walk_behind
from treelore.trees import part_of, places_of

EVEN = (1, 1, 1)
COSTS = [EVEN, (1, 2, 3), (3, 1, 1), (100, 7, 50), (5, 3, 100)]
MIXED = ("a", (("b", (leaf("c"), leaf("d"))), leaf("b")))
TREES = [leaf("a"), leaf("b"), line(2), line(3, "b"), SAMPLES[2], MIXED, ("b", (("a", (leaf("c"),)), leaf("d"), leaf("b")))]
TWELVE = [fan(12), line(12), stair(6), ("a", (SMALL, leaf("z"))), ("b", (leaf("c"), SMALL))]


def plain_walk(tree):
    """The paths in the walk behind: by their own ends, a place behind all beneath it."""
    return sorted(places_of(tree), key=lambda path: path + (99,) * (13 - len(path)))


def plain_lows(tree):
    walk = plain_walk(tree)
    return [min(number for number, other in enumerate(walk) if other[:len(path)] == path) for path in walk]


def plain_tags(tree):
    return [part_of(tree, path)[0] for path in plain_walk(tree)]


class Worths:
    """Worths of spans, reckoned by the words of [47] alone."""

    def __init__(self, one, other, costs):
        self.costs = costs
        self.sides = [(plain_tags(tree), plain_lows(tree)) for tree in (one, other)]
        self.top = (0, len(self.sides[0][0]) - 1, 0, len(self.sides[1][0]) - 1)
        self.worth = functools.lru_cache(None)(self.reckon)

    def spans(self, side):
        """All spans of a tree that aren't empty."""
        lows = self.sides[side][1]
        return [(a, b) for a in range(len(lows)) for b in range(a + 1, len(lows) + 1) if all(low >= a for low in lows[a:b])]

    def goes_by(self, spans):
        a, b, c, d = spans
        low, other = self.sides[0][1][b - 1], self.sides[1][1][d - 1]
        return (a, b - 1, c, d), (a, b, c, d - 1), (a, low, c, other), (low, b - 1, other, d - 1)

    def reckon(self, spans):
        name, out, into = self.costs
        a, b, c, d = spans
        if a == b:
            return into * (d - c)
        if c == d:
            return out * (b - a)
        first, second, ahead, beneath = self.goes_by(spans)
        unlike = name if self.sides[0][0][b - 1] != self.sides[1][0][d - 1] else 0
        return min(out + self.worth(first), into + self.worth(second), self.worth(ahead) + self.worth(beneath) + unlike)

    def full(self):
        """The right table with a row for each two spans."""
        return tuple(sorted(one + other + (self.worth(one + other),) for one in self.spans(0) for other in self.spans(1)))

    def told(self):
        """The right table of the top row, and what it goes by."""
        rows, queue = set(), [self.top]
        while queue:
            spans = queue.pop()
            if spans not in rows and spans[0] < spans[1] and spans[2] < spans[3]:
                rows.add(spans)
                queue.extend(self.goes_by(spans))
        return tuple(spans + (self.worth(spans),) for spans in sorted(rows))

    def least(self):
        unlike = self.costs[0] if self.sides[0][0][-1] != self.sides[1][0][-1] else 0
        return self.worth(self.top) + unlike

    def is_right(self, table):
        """The judge of tables, of tuples of rows of five numbers, that the tests go by."""
        keys = [row[:4] for row in table]
        if keys != sorted(set(keys)):
            return False
        for row in table:
            if row[:2] not in self.spans(0) or row[2:4] not in self.spans(1) or row[4] != self.worth(row[:4]):
                return False
            if any(spans[0] < spans[1] and spans[2] < spans[3] and spans not in keys for spans in self.goes_by(row[:4])):
                return False
        return self.top in keys or self.top[1] == 0 or self.top[3] == 0


def least_by_matchings(one, other, costs):
    """The least cost of all matchings by the words of [45], each of them tried."""
    name, out, into = costs
    ones, others = places_of(one), places_of(other)

    def agree(pair, known):
        (path, there), (other_path, other_there) = pair, known
        beneath = path[:len(other_path)] == other_path, there[:len(other_there)] == other_there
        over = other_path[:len(path)] == path, other_there[:len(there)] == there
        ahead = path < other_path, there < other_there
        return all(mine == theirs for mine, theirs in (beneath, over, ahead))

    def best(at, pairs):
        if at == len(ones):
            unlike = sum(part_of(one, path)[0] != part_of(other, there)[0] for path, there in pairs)
            return name * unlike + out * (len(ones) - len(pairs)) + into * (len(others) - len(pairs))
        found = [best(at + 1, pairs)]
        for there in others[1:]:
            pair = (ones[at], there)
            if all(there != known[1] and agree(pair, known) for known in pairs):
                found.append(best(at + 1, pairs + [pair]))
        return min(found)

    return best(1, [((), ())])


class CostsTest(RefusalChecks, unittest.TestCase):
    def test_is_costs(self):
        self.assertEqual((COST, NEAR), (100, 12))
        for thing in ((1, 1, 1), (100, 100, 100), (1, 50, 100)):
            self.assertIs(is_costs(thing), True)
        for at in range(3):
            for wrong in (0, 101, -1, True, False, None, "1", (1,), [1], {}, 10 ** 59, very_many()):
                thing = EVEN[:at] + (wrong,) + EVEN[at + 1:]
                self.assertIs(is_costs(thing), False, at)
                self.refused(("NoCosts", "costs"), table_of, SMALL, SMALL, thing)
        for thing in ODDITIES + [[1, 1, 1], (1, 1), (1, 1, 1, 1), (), 1, "111", {1: 1, 2: 1, 3: 1}, ((1, 1, 1),)]:
            self.assertIs(is_costs(thing), False)

    def test_walks_behind_and_lows(self):
        self.assertEqual(walk_behind(SMALL), ((0, 0), (0, 1, 0), (0, 1), (0,), (1,), (2, 0), (2, 1), (2, 2), (2,), ()))
        self.assertEqual(lows_of(SMALL), (0, 1, 1, 0, 4, 5, 6, 7, 5, 0))
        self.assertEqual((walk_behind(leaf()), lows_of(leaf())), (((),), (0,)))
        for tree in SAMPLES + [fan(60), line(12), stair(12)]:
            self.assertEqual(walk_behind(tree), tuple(plain_walk(tree)))
            self.assertEqual(lows_of(tree), tuple(plain_lows(tree)))
        for thing in ODDITIES:
            self.refused(("NoTree",), walk_behind, thing)
            self.refused(("NoTree",), lows_of, thing)

    def test_tables_and_costs(self):
        for costs in COSTS:
            for one in TREES + TWELVE[3:]:
                for other in TREES + TWELVE[2:4]:
                    worths = Worths(one, other, costs)
                    table = table_of(one, other, costs)
                    self.assertEqual(table, worths.told(), (one, other, costs))
                    self.assertIs(right_table(one, other, costs, table), True)
                    self.assertEqual(cost_between(one, other, costs), worths.least())

    def test_the_least_cost_of_all_matchings(self):
        for costs in COSTS:
            for one in TREES:
                for other in TREES:
                    self.assertEqual(cost_between(one, other, costs), least_by_matchings(one, other, costs), (one, other, costs))

    def test_told_ones(self):
        self.assertEqual(table_of(leaf("a"), leaf("b"), EVEN), ())
        self.assertEqual(cost_between(leaf("a"), leaf("b"), (7, 1, 1)), 7)
        self.assertEqual(cost_between(leaf("a"), leaf("a"), (7, 1, 1)), 0)
        self.assertEqual(table_of(line(2), leaf(), EVEN), ())
        self.assertEqual(cost_between(line(3), leaf(), (1, 4, 9)), 8)
        self.assertEqual(cost_between(leaf(), line(3), (1, 4, 9)), 18)
        self.assertEqual(table_of(line(2), line(2, "b"), (7, 9, 9)), ((0, 1, 0, 1, 7),))
        self.assertEqual(table_of(line(2), line(2, "b"), (50, 9, 9)), ((0, 1, 0, 1, 18),))
        self.assertEqual(cost_between(line(2), line(2, "b"), (50, 9, 9)), 68)

    def test_equal_trees_cost_nothing(self):
        for tree in TREES + TWELVE:
            for costs in COSTS:
                self.assertEqual(cost_between(tree, tree, costs), 0)

    def test_trees_of_twelve_places(self):
        for one in TWELVE:
            for other in TWELVE[::-1]:
                worths = Worths(one, other, (2, 3, 5))
                self.assertEqual(table_of(one, other, (2, 3, 5)), worths.told())
                self.assertEqual(cost_between(one, other, (2, 3, 5)), worths.least())
                self.assertIs(right_table(one, other, (2, 3, 5), worths.told()), True)

    def test_refusals_in_their_order(self):
        for call, things in ((table_of, ()), (cost_between, ()), (right_table, (None,))):
            for thing in ODDITIES:
                self.refused(("NoTree",), call, thing, fan(20), None, *things)
                self.refused(("NoTree",), call, fan(20), thing, None, *things)
                self.refused(("NoCosts", "costs"), call, fan(20), fan(13), thing, *things)
            self.refused(("TooMany", 13), call, fan(13), fan(20), EVEN, *things)
            self.refused(("TooMany", 20), call, fan(12), fan(20), EVEN, *things)
            self.refused(("TooMany", 60), call, fan(60), leaf(), EVEN, *things)
        self.assertIsInstance(refusal_of(table_of, fan(13), leaf(), EVEN), errors.NoFit)
        self.assertIsInstance(refusal_of(table_of, leaf(), leaf(), None), errors.NoThing)


class RightTableTest(unittest.TestCase):
    def check(self, one, other, costs, table, right):
        self.assertIs(right_table(one, other, costs, table), right)

    def test_more_rows_than_the_told_one(self):
        for costs in COSTS[:3]:
            for one in TREES:
                for other in TREES:
                    worths = Worths(one, other, costs)
                    self.check(one, other, costs, worths.full(), True)

    def test_each_row_left_out(self):
        for one, other in ((MIXED, TREES[6]), (TREES[6], MIXED), (SAMPLES[2], MIXED), (leaf(), MIXED), (leaf(), leaf("b"))):
            worths = Worths(one, other, (1, 2, 3))
            for table in (worths.told(), worths.full()):
                outcomes = set()
                for at in range(len(table)):
                    less = table[:at] + table[at + 1:]
                    right = worths.is_right(less)
                    outcomes.add(right)
                    self.check(one, other, (1, 2, 3), less, right)
                if table == worths.told():
                    self.assertNotIn(True, outcomes)
                elif len(table) > 1:
                    self.assertEqual(outcomes, {True, False})

    def test_halves_of_the_full_table(self):
        worths = Worths(MIXED, TREES[6], EVEN)
        full = worths.full()
        for step in range(2, 9):
            told = set(worths.told())
            for begin in range(step):
                some = tuple(sorted(told | set(full[begin::step])))
                self.check(MIXED, TREES[6], EVEN, some, worths.is_right(some))

    def test_each_row_bent(self):
        one, other, costs = MIXED, TREES[6], (1, 2, 3)
        worths = Worths(one, other, costs)
        for table in (worths.told(), worths.full()):
            for at, row in enumerate(table):
                ahead, behind = table[:at], table[at + 1:]
                for bent in self.bent_rows(row):
                    self.check(one, other, costs, ahead + (bent,) + behind, False)
                self.check(one, other, costs, ahead + (row, row) + behind, False)
                self.check(one, other, costs, ahead + (row, row[:4] + (row[4] + 1,)) + behind, False)
                self.check(one, other, costs, ahead + (row[:4] + (row[4] - 1,), row) + behind, False)
                self.check(one, other, costs, ahead + (row[:4] + (0,), row) + behind, False)
                if at:
                    self.check(one, other, costs, table[:at - 1] + (row, table[at - 1]) + behind, False)

    def bent_rows(self, row):
        spans, worth = row[:4], row[4]
        yield from [spans + (other,) for other in (worth + 1, worth - 1, str(worth), None, (worth,), [worth], True, 10 ** 59)]
        yield from [spans + (0,), spans + (-worth,)] if worth else [spans + (False,)]
        yield from (list(row), spans, row + (0,), (), None, 0, True, "", {}, very_many(), (very_many(),) + row[1:])
        for number in range(4):
            others = [str(row[number]), -1, None] + ([bool(row[number])] if row[number] < 2 else [])
            yield from [row[:number] + (other,) + row[number + 1:] for other in others]

    def test_wrong_worths_that_agree_with_one_another(self):
        # All rows by other costs: each agrees with those it goes by, but not by these costs.
        for costs in COSTS[1:]:
            table = Worths(MIXED, TREES[6], costs).told()
            self.check(MIXED, TREES[6], EVEN, table, False)
            self.check(MIXED, TREES[6], costs, table, True)
        self.check(TREES[6], MIXED, EVEN, Worths(MIXED, TREES[6], EVEN).told(), False)

    def test_rows_of_no_spans_and_of_empty_ones(self):
        one, other = MIXED, TREES[6]
        worths = Worths(one, other, EVEN)
        table = worths.told()
        for a in range(7):
            for b in range(7):
                for c in range(7):
                    for d in range(7):
                        spans = (a, b, c, d)
                        if (a, b) in worths.spans(0) and (c, d) in worths.spans(1):
                            continue
                        for worth in (0, max(b - a, 0) + max(d - c, 0), 1):
                            self.check(one, other, EVEN, tuple(sorted(table + (spans + (worth,),))), False)

    def test_beyond_the_trees(self):
        for row in ((0, 1, 0, 1, 1), (0, 2, 0, 1, 1)):
            self.check(leaf("a"), leaf("b"), EVEN, (row,), row == (0, 1, 0, 1, 1))
        self.check(leaf("a"), leaf("a"), EVEN, ((0, 1, 0, 1, 0),), True)
        self.check(leaf("a"), leaf("a"), EVEN, ((0, 1, 0, 1, False),), False)
        self.check(leaf("a"), leaf("a"), EVEN, ((0, True, 0, 1, 0),), False)
        self.check(leaf("a"), leaf("a"), EVEN, ((0, 1, 0, 1, 1),), False)

    def test_the_row_of_all_but_the_tops(self):
        self.check(leaf(), leaf(), EVEN, (), True)
        self.check(leaf(), MIXED, EVEN, (), True)
        self.check(MIXED, leaf(), EVEN, (), True)
        self.check(line(2), line(2), EVEN, (), False)
        self.check(line(2), line(2), EVEN, ((0, 1, 0, 1, 0),), True)
        # A right row of others alone is not enough.
        self.check(line(3), line(3), EVEN, ((0, 1, 0, 1, 0),), False)

    def test_things_that_are_no_tables(self):
        table = Worths(MIXED, TREES[6], EVEN).told()
        for thing in ODDITIES + [(), None, 0, "", list(table), (table,), table[::-1], table * 2, {}, table + (None,), (None,) + table,
                                 table * 10 ** 4]:
            self.check(MIXED, TREES[6], EVEN, thing, False)


if __name__ == "__main__":
    unittest.main()
