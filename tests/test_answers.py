"""Asked by patterns: where tests hold [33], readings and fits [35], answers [36], tables [37], [38], clear ones [39]."""

import itertools
import unittest

from tests.asked import ANY, all_of, chain, fits_at, holds, is_plain_reading, nots, own_of, pattern, plain_answers
from tests.asked import plain_readings
from tests.refusals import RefusalChecks, refusal_of
from tests.samples import ODDITIES, SAMPLES, SMALL, fan, leaf, line, stair, very_many
from treelore import errors
from treelore.answers import answer_behind, answers, count_table, fits, fits_table, is_reading, reading_of, readings
from treelore.answers import right_counts_of, right_fits, test_holds
from treelore.patterns import WAYS, is_clear, is_pattern
from treelore.trees import part_of, places_of

MIXED = ("ab", (("a", (("b", ()), ("ab", ()))), ("b", ()), ("abc", (("a", ()),))))
TREES = [leaf(), line(3), SAMPLES[2], SAMPLES[3], MIXED]

B = pattern(("tag", "b"))
KID_B = pattern(ANY, ("kid", B))
TESTS = [
    ANY, ("tag", "a"), ("tag", "ab"), ("starts", "a"), ("starts", "ab"), ("starts", "abcd"), ("kids", 0, 0), ("kids", 1, 2),
    ("kids", 2, 60), ("at", 0), ("at", 1), ("at", 2), ("not", ("at", 0)), ("not", ("not", ("tag", "b"))),
    ("both", ("starts", "a"), ("kids", 0, 0)), ("one", ("tag", "b"), ("kids", 2, 3)), ("one", ("tag", "b"), ("starts", "b")),
    ("not", ("both", ("one", ("tag", "a"), ("at", 1)), ("not", ("kids", 0, 0)))),
    *[("lacks", way, B) for way in WAYS], *[("lacks", way, KID_B) for way in WAYS],
    ("not", ("lacks", "beneath", pattern(("lacks", "next", pattern()), ("above", pattern(("starts", "a")))))),
    ("both", ("lacks", "kid", B), ("lacks", "over", pattern(("kids", 3, 3)))),
]
PATTERNS = [
    pattern(), pattern(mark="m"), pattern(("tag", "b"), mark="m"), pattern(("tag", "zz")), pattern(("tag", "zz"), mark="m"),
    *[pattern(ANY, (way, pattern(("starts", "a")))) for way in WAYS],
    *[pattern(("kids", 0, 2), (way, pattern(mark="m"))) for way in WAYS],
    *[pattern(ANY, (way, pattern(ANY, mark="n")), mark="m") for way in WAYS],
    *[pattern(ANY, (way, pattern(mark="z")), (other, pattern(("starts", "a"), mark="a")))
      for way, other in (("kid", "next"), ("beneath", "beneath"), ("above", "later"), ("over", "kid"), ("later", "over"))],
    *[pattern(ANY, (way, pattern(ANY, (other, pattern(mark="b")), mark="a")))
      for way, other in (("kid", "next"), ("beneath", "above"), ("above", "kid"), ("next", "beneath"), ("over", "later"))],
    pattern(ANY, ("kid", pattern(("tag", "b"), mark="x")), ("kid", pattern(("lacks", "kid", pattern())))),
    pattern(("lacks", "next", B), ("above", pattern(ANY, ("kid", pattern(("at", 0), mark="k")))), mark="m"),
    pattern(("one", ("lacks", "kid", KID_B), ("lacks", "over", B)), ("beneath", pattern()), mark="m"),
]


class HoldsTest(RefusalChecks, unittest.TestCase):
    def test_each_kind_at_each_place(self):
        for tree in TREES + [SMALL]:
            for test in TESTS:
                for path in places_of(tree):
                    self.assertIs(test_holds(tree, test, path), holds(tree, test, path), (tree, test, path))

    def test_told_ones(self):
        for test, held in (
            (("tag", "a"), [(0,), (2, 0)]), (("starts", "a"), [(), (0,), (0, 1), (2,), (2, 0)]), (("at", 0), [(0,), (0, 0), (2, 0)]),
            (("kids", 1, 2), [(0,), (2,)]), (("lacks", "kid", B), [(0, 0), (0, 1), (1,), (2,), (2, 0)]),
            (("lacks", "next", B), [(), (0, 0), (0, 1), (1,), (2,), (2, 0)]), (("lacks", "above", pattern()), [()]),
            (("not", ("lacks", "over", pattern(("tag", "abc")))), [(2, 0)]),
            (("lacks", "later", pattern()), [(), (0, 1), (2,), (2, 0)]),
            (("lacks", "beneath", pattern(("at", 1))), [(0, 0), (0, 1), (1,), (2,), (2, 0)]),
        ):
            self.assertEqual([path for path in places_of(MIXED) if test_holds(MIXED, test, path)], held, test)

    def test_refusals_in_their_order(self):
        for thing in ODDITIES:
            self.refused(("NoTree",), test_holds, thing, None, None)
            self.refused(("NoTest", "test"), test_holds, SMALL, thing, None)
            self.refused(("NoPath",), test_holds, SMALL, ANY, thing)
        self.refused(("NoTest", "test"), test_holds, SMALL, nots(17), (9,))
        self.refused(("NoPlace", (9,)), test_holds, SMALL, ANY, (9,))
        self.assertIsInstance(refusal_of(test_holds, SMALL, None, None), errors.NoThing)


class ReadingsTest(RefusalChecks, unittest.TestCase):
    def test_against_all_tuples_of_places(self):
        for tree in TREES:
            for told in PATTERNS:
                rows = plain_readings(tree, told)
                self.assertEqual(readings(tree, told), len(rows), (tree, told))
                self.assertEqual(answers(tree, told), plain_answers(tree, told), (tree, told))
                for path in places_of(tree):
                    self.assertIs(fits(tree, told, path), any(row[0] == path for row in rows))
                    self.assertEqual(answers(tree, told, within=path), plain_answers(tree, told, path), (tree, told, path))
                for row in itertools.product(places_of(tree), repeat=len(own_of(told))):
                    self.assertIs(is_reading(tree, told, row), is_plain_reading(tree, told, row))

    def test_in_a_greater_tree(self):
        for told in PATTERNS:
            rows = plain_readings(SMALL, told) if len(own_of(told)) < 3 else None
            if rows is not None:
                self.assertEqual(readings(SMALL, told), len(rows))
                self.assertEqual(answers(SMALL, told), plain_answers(SMALL, told))

    def test_each_is_a_pattern(self):
        self.assertTrue(all(is_pattern(told) for told in PATTERNS))

    def test_tables(self):
        for tree in TREES:
            for told in PATTERNS:
                places = places_of(tree)
                table = tuple(tuple(path for path in places if fits_at(tree, one, path)) for one in all_of(told))
                self.assertEqual(fits_table(tree, told), table, (tree, told))
                self.assertIs(right_fits(tree, told, table), True)
                counts = []
                for one in own_of(told):
                    firsts = [row[0] for row in plain_readings(tree, one)]
                    counts.append(tuple((path, firsts.count(path)) for path in places if path in firsts))
                self.assertEqual(count_table(tree, told), tuple(counts), (tree, told))
                self.assertIs(right_counts_of(tree, told, tuple(counts)), True)

    def test_told_ones(self):
        told = pattern(("kids", 1, 60), ("beneath", pattern(("tag", "b"), mark="x")), mark="m")
        self.assertEqual(answers(MIXED, told), (((), (0, 0)), ((), (1,)), ((0,), (0, 0))))
        self.assertEqual(answers(MIXED, told, within=(0,)), (((0,), (0, 0)),))
        self.assertEqual(answers(MIXED, told, within=(1,)), ())
        self.assertEqual(fits_table(MIXED, told), (((), (0,)), ((0, 0), (1,))))
        self.assertEqual(count_table(MIXED, told), ((((), 2), ((0,), 1)), (((0, 0), 1), ((1,), 1))))
        self.assertEqual(readings(MIXED, told), 3)

    def test_without_marks(self):
        self.assertEqual(answers(SMALL, pattern()), ((),))
        self.assertEqual(answers(SMALL, pattern(("tag", "zz"))), ())
        self.assertEqual(answers(SMALL, pattern(("tag", "e")), within=(0, 1)), ((),))
        self.assertEqual(answers(SMALL, pattern(("tag", "e")), within=(1,)), ())

    def test_each_answer_once(self):
        told = pattern(ANY, ("beneath", pattern()), ("beneath", pattern()), mark="m")
        self.assertEqual(answers(line(4), told), (((),), ((0,),), ((0, 0),)))
        self.assertEqual(readings(line(4), told), 14)

    def test_two_needs_may_be_met_by_one_place(self):
        told = pattern(ANY, ("kid", pattern(mark="x")), ("kid", pattern(mark="y")))
        self.assertEqual(answers(line(2), told), (((0,), (0,)),))

    def test_great_ones(self):
        wide = fan(60)
        later = pattern(ANY, ("later", pattern(mark="y")), mark="x")
        pairs = tuple(((one,), (other,)) for one in range(59) for other in range(one + 1, 59))
        self.assertEqual(answers(wide, later), pairs)
        self.assertEqual(readings(wide, chain(8, way="later")), 2217471399)
        both = pattern(ANY, *[("kid", pattern())] * 7)
        self.assertEqual(readings(wide, both), 59 ** 7)
        self.assertEqual(count_table(wide, both)[0], (((), 59 ** 7),))
        deep = stair(12)
        over = pattern(ANY, ("over", pattern(ANY, mark="x")), mark="y")
        self.assertEqual(answers(deep, over),
                         tuple(sorted((path, path[:at]) for path in places_of(deep) for at in range(len(path)))))

    def test_the_order_of_marks_is_that_of_the_own_patterns(self):
        told = pattern(ANY, ("above", pattern(ANY, mark="a")), mark="z")
        self.assertEqual(answers(line(3), told), (((0,), ()), ((0, 0), (0,))))

    def test_clear_patterns_go_with_their_part(self):
        seen = 0
        for tree in TREES + [SMALL]:
            for told in PATTERNS:
                if is_clear(told):
                    seen += 1
                    for top in places_of(tree):
                        alone = answers(part_of(tree, top), told)
                        self.assertEqual(answers(tree, told, within=top), tuple(tuple(top + path for path in row) for row in alone))
        self.assertGreater(seen, 30)

    def test_is_reading_of_anything(self):
        told = pattern(ANY, ("kid", pattern()))
        row = ((0,), (0, 1))
        self.assertIs(is_reading(SMALL, told, row), True)
        for thing in ODDITIES + [(), 0, "", row[:1], row + ((),), list(row), ((0,), [0, 1]), ([0], (0, 1)), ((False,), (0, 1)),
                                 ((0,), (0, True)), ((0,), (0, 2)), ((0,), None), (None, (0, 1)), ((), (9,)), ((9,), (9, 0)),
                                 ((0,), very_many()), (very_many(), (0, 1)), ((0,), (0, 10 ** 59)), ((0,), (0, -1))]:
            self.assertIs(is_reading(SMALL, told, thing), False)
        self.assertIs(is_reading(SMALL, pattern(), ((),)), True)
        self.assertIs(is_reading(SMALL, pattern(), ()), False)

    def test_refusals_in_their_order(self):
        for call, things in ((fits_table, ()), (right_fits, (None,)), (fits, (None,)), (is_reading, (None,)), (count_table, ()),
                             (right_counts_of, (None,)), (readings, ()), (answers, ()), (answer_behind, (None,)),
                             (reading_of, (None,))):
            for thing in ODDITIES:
                self.refused(("NoTree",), call, thing, thing, *things)
                self.refused(("NoPattern", "pattern"), call, SMALL, thing, *things)
            self.refused(("NoPattern", "pattern"), call, SMALL, chain(9), *things)
        for thing in ODDITIES:
            self.refused(("NoPath",), fits, SMALL, pattern(), thing)
            self.refused(("NoPath",), lambda: answers(SMALL, pattern(), within=thing))
            self.refused(("NoPattern", "pattern"), lambda: answers(SMALL, None, within=thing))
        self.refused(("NoPlace", (9,)), fits, SMALL, pattern(), (9,))
        self.refused(("NoPlace", (9,)), lambda: answers(SMALL, pattern(), within=(9,)))


class AnswerTest(RefusalChecks, unittest.TestCase):
    def paths(self, tree):
        """All places, and paths that are none, between and behind them."""
        return places_of(tree) + [(0, 5), (1, 0, 0), (7,), (59,) * 11]

    def test_the_least_answer_above(self):
        for tree in TREES[1:]:
            for told in PATTERNS:
                right = plain_answers(tree, told)
                marks = len([own for own in own_of(told) if own[0]])
                for row in itertools.product(self.paths(tree), repeat=marks):
                    above = [answer for answer in right if answer > row]
                    self.assertEqual(answer_behind(tree, told, row), min(above) if above else None, (tree, told, row))

    def test_a_reading_that_tells_it(self):
        for tree in TREES[1:]:
            for told in PATTERNS:
                right = plain_answers(tree, told)
                marked = [at for at, own in enumerate(own_of(told)) if own[0]]
                for row in itertools.product(self.paths(tree), repeat=len(marked)):
                    reading = reading_of(tree, told, row)
                    if row not in right:
                        self.assertIsNone(reading)
                        continue
                    self.assertIsInstance(reading, tuple)
                    self.assertEqual(len(reading), len(own_of(told)))
                    self.assertTrue(is_plain_reading(tree, told, reading), (tree, told, reading))
                    self.assertEqual(tuple(reading[at] for at in marked), row)
                    self.assertEqual(reading_of(tree, told, row), reading)

    def test_told_ones(self):
        told = pattern(("tag", "b"), mark="m")
        tree = SAMPLES[2]
        self.assertEqual(answer_behind(tree, told, ((),)), ((0,),))
        self.assertEqual(answer_behind(tree, told, ((0, 7),)), ((1,),))
        self.assertIsNone(answer_behind(tree, told, ((2,),)))
        self.assertIsNone(answer_behind(tree, pattern(), ()))
        self.assertEqual(reading_of(tree, pattern(("kids", 1, 9)), ()), ((),))
        self.assertIsNone(reading_of(tree, pattern(("tag", "zz")), ()))

    def test_no_answer(self):
        one, two = pattern(mark="m"), pattern(ANY, ("kid", pattern(mark="n")), mark="m")
        for call in (answer_behind, reading_of):
            for thing in ODDITIES + ["", 0, [()], [[]], (((),),), ((0,), None), (None,), ([],), (very_many(),), ((True,),), ((60,),),
                                     ((0,) * 12,), ((), (), ())]:
                self.refused(("NoAnswer", "answer"), call, SMALL, two, thing)
                if thing != ((0,),):
                    self.refused(("NoAnswer", "answer"), call, SMALL, one, thing)
            self.refused(("NoAnswer", "answer"), call, SMALL, one, ())
            self.refused(("NoAnswer", "answer"), call, SMALL, one, ((), ()))
            self.refused(("NoAnswer", "answer"), call, SMALL, two, ((),))
            self.refused(("NoAnswer", "answer"), call, SMALL, pattern(), ((),))
            self.refused(("NoAnswer", "answer"), call, SMALL, pattern(), None)
            self.refused(("NoPattern", "pattern"), call, SMALL, None, None)
        self.assertIsInstance(refusal_of(reading_of, SMALL, one, None), errors.NoThing)


class JudgesTest(unittest.TestCase):
    TOLD = pattern(("lacks", "kid", pattern(("tag", "zz"))), ("kid", pattern(("not", ("tag", "e")), mark="x")), mark="m")

    def bent_rows(self, table, pairs):
        """The table with each of its rows bent."""
        for at, row in enumerate(table):
            rows = [row[::-1], list(row), None, 0, "", True, {}, very_many(), row + (None,), row + ((9,),), (row,)]
            for number, cell in enumerate(row):
                ahead, behind = row[:number], row[number + 1:]
                cells = [None, True, [], {}, very_many(), (cell,), list(cell), (60,), (0,) * 12]
                cells.extend(pairs(cell))
                rows.extend([ahead + behind, ahead + (cell, cell) + behind])
                rows.extend([ahead + (other,) + behind for other in cells])
            for other in rows:
                yield table[:at] + (other,) + table[at + 1:]
            yield table[:at] + table[at + 1:]
            yield table[:at] + (row, row) + table[at + 1:]
            yield table[:at] + ((),) + table[at + 1:]
        yield from (list(table), table + ((),), (), None, 0, True, "", {}, [], table[::-1], (table,), very_many())

    def truths(self, path):
        """The path with a truth instead of each number that is like one."""
        return [path[:at] + (bool(step),) + path[at + 1:] for at, step in enumerate(path) if step < 2]

    def strictly(self, thing):
        """The thing written out, None where it is too large for that."""
        return repr(thing) if small(thing) else None

    def test_fits_tables(self):
        table = fits_table(SMALL, self.TOLD)
        self.assertEqual([len(row) for row in table], [3, 0, 9])
        self.assertIs(right_fits(SMALL, self.TOLD, table), True)
        bent = 0
        for number, other in enumerate(self.bent_rows(table, lambda path: self.truths(path) + places_of(SMALL))):
            if self.strictly(other) != repr(table):
                bent += 1
                self.assertIs(right_fits(SMALL, self.TOLD, other), False, number)
        self.assertGreater(bent, 200)
        # A place more, in its order, at each row.
        for at, row in enumerate(table):
            for path in places_of(SMALL):
                if path not in row:
                    other = table[:at] + (tuple(sorted(row + (path,))),) + table[at + 1:]
                    self.assertIs(right_fits(SMALL, self.TOLD, other), False)

    def test_count_tables(self):
        table = count_table(SMALL, self.TOLD)
        self.assertEqual(table[0], (((), 3), ((0,), 2), ((2,), 3)))
        self.assertIs(right_counts_of(SMALL, self.TOLD, table), True)

        def pairs(cell):
            path, many = cell
            return [(path, many + 1), (path, many - 1), (path, 0), (path, -many), (path, str(many)), (path, None), (path, True),
                    (path, (many,)), (path,), (path, many, many), (many, path), path, many, (list(path), many), (path, 10 ** 59),
                    *[(other, many) for other in self.truths(path) + places_of(SMALL)]]

        bent = 0
        for number, other in enumerate(self.bent_rows(table, pairs)):
            if self.strictly(other) != repr(table):
                bent += 1
                self.assertIs(right_counts_of(SMALL, self.TOLD, other), False, number)
        self.assertGreater(bent, 200)
        for at, row in enumerate(table):
            for path in places_of(SMALL):
                if path not in dict(row):
                    for many in (0, 1):
                        other = table[:at] + (tuple(sorted(row + ((path, many),))),) + table[at + 1:]
                        self.assertIs(right_counts_of(SMALL, self.TOLD, other), False)

    def test_tables_of_another_tree_or_pattern(self):
        other = pattern(ANY, ("kid", pattern(mark="x")), mark="m")
        for told in (self.TOLD, other):
            for tree in (SMALL, MIXED, leaf()):
                self.assertIs(right_fits(SMALL, other, fits_table(tree, told)), (tree, told) == (SMALL, other))
                self.assertIs(right_counts_of(SMALL, other, count_table(tree, told)), (tree, told) == (SMALL, other))

    def test_empty_rows(self):
        none = pattern(("tag", "zz"), ("kid", pattern()))
        self.assertIs(right_fits(leaf(), none, ((), ((),))), True)
        self.assertIs(right_counts_of(leaf(), none, ((), (((), 1),))), True)
        self.assertIs(right_counts_of(leaf(), none, ((), (((), True),))), False)
        self.assertIs(right_counts_of(leaf(), none, ((((), 1),), (((), 1),))), False)


def small(thing, room=2000):
    """Whether a thing is small enough to be written out."""
    queue = [thing]
    while queue and room:
        room -= 1
        one = queue.pop()
        if isinstance(one, (list, tuple)):
            queue.extend(one)
    return room > 0


if __name__ == "__main__":
    unittest.main()
