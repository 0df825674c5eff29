"""What patterns are: ways [32], tests [33], patterns and their bounds [34], clear ones [39]."""

import unittest

from tests.asked import ANY, all_of, chain, leads, nots, own_of, pattern
from tests.refusals import RefusalChecks, refusal_of
from tests.samples import ODDITIES, SAMPLES, SMALL, fan, leaf, line, stair, very_many
from treelore import errors
from treelore.patterns import MARKS, PATTERNS, TESTS, WAYS, all_patterns, is_clear, is_pattern, is_test, marks_of
from treelore.patterns import own_patterns, places_by
from treelore.trees import places_of

LACKS = ("lacks", "kid", pattern())
GOOD_TESTS = [
    ANY, ("tag", "a"), ("tag", "abcdefgh"), ("starts", "zz"), ("kids", 0, 0), ("kids", 0, 60), ("kids", 60, 60),
    ("kids", 2, 3), ("at", 0), ("at", 59), ("not", ANY), ("both", ANY, ("at", 3)), ("one", ("tag", "b"), ("not", ANY)), LACKS,
    ("lacks", "over", pattern(("lacks", "next", pattern(ANY, ("later", pattern(("at", 1))))))),
]
BAD_TESTS = [
    None, True, 0, "", "any", [], ["any"], {}, (), ("any", ()), ("Any",), ("all",), (None,), (("any",),), ("tag",), ("tag", ""),
    ("tag", "A"), ("tag", "abcdefghi"), ("tag", None), ("tag", "a", "b"), ("tag", ["a"]), ("starts", ""), ("starts", 1),
    ("starts",), ("kids", 1), ("kids", 1, 2, 3), ("kids", 2, 1), ("kids", 60, 59), ("kids", 0, 61), ("kids", 61, 61),
    ("kids", -1, 0), ("kids", False, 1), ("kids", 0, True), ("kids", "0", 1), ("kids", 0, None), ("kids", (0,), 1), ("at",),
    ("at", 60), ("at", -1), ("at", True), ("at", False), ("at", None), ("at", "0"), ("at", 10 ** 59), ("at", 0, 1), ("not",),
    ("not", ANY, ANY), ("not", None), ("not", ["any"]), ("not", "any"), ("both", ANY), ("both", ANY, ANY, ANY),
    ("both", ANY, None), ("both", None, ANY), ("one", ANY), ("one", ("tag", "A"), ANY), ("one", ANY, ("at", 60)), ("lacks",),
    ("lacks", "kid"), ("lacks", pattern()), ("lacks", "kid", ANY), ("lacks", "kids", pattern()), ("lacks", "", pattern()),
    ("lacks", None, pattern()), ("lacks", ("kid",), pattern()), ("lacks", "kid", list(pattern())), ("lacks", "kid", None),
    ("lacks", "kid", pattern(), ()), ("lacks", "kid", pattern(mark="m")), ("lacks", "kid", pattern(ANY, ("kid", pattern(mark="m")))),
    ("lacks", "kid", pattern(("lacks", "kid", pattern(mark="m")))), ("kid", "lacks", pattern()), very_many(),
    ("not", very_many()), ("tag", very_many()), ("lacks", very_many(), pattern()), ("lacks", "kid", very_many()),
    (very_many(), ANY), ([], ANY), ({}, ANY),
]
NO_WAYS = [None, True, 0, "", "Kid", "kids", "up", ("kid",), ["kid"], {}, (), very_many(), very_many(made=list), 10 ** 59]


def shared_test(levels):
    test = ANY
    for _ in range(levels):
        test = ("both", test, test)
    return test


def shared_pattern(levels, made=tuple):
    told = pattern()
    for _ in range(levels):
        told = ("", ANY, made([("kid", told), ("kid", told)]))
    return told


class TestsTest(RefusalChecks, unittest.TestCase):
    def test_each_kind(self):
        for test in GOOD_TESTS:
            self.assertIs(is_test(test), True, test)
            self.assertIs(is_pattern(pattern(test)), True, test)

    def test_wrong_ones(self):
        for number, test in enumerate(BAD_TESTS):
            self.assertIs(is_test(test), False, number)
            for outer in (("not", test), ("both", ANY, test), ("one", test, ANY), ("lacks", "kid", pattern(test))):
                self.assertIs(is_test(outer), False, number)
            self.assertIs(is_pattern(pattern(test)), False, number)
            self.assertIs(is_pattern(pattern(ANY, ("kid", pattern(test)))), False, number)

    def test_how_many_tests(self):
        self.assertEqual((PATTERNS, TESTS, MARKS), (8, 16, 2))
        self.assertIs(is_test(nots(16)), True)
        self.assertIs(is_test(nots(17)), False)
        self.assertIs(is_test(nots(59)), False)
        self.assertIs(is_test(("both", nots(7), nots(8))), True)
        self.assertIs(is_test(("both", nots(8), nots(8))), False)
        self.assertIs(is_test(("one", nots(15), ANY)), False)
        self.assertIs(is_test(("lacks", "kid", pattern(nots(15)))), True)
        self.assertIs(is_test(("lacks", "kid", pattern(nots(16)))), False)
        self.assertIs(is_test(shared_test(3)), True)
        self.assertIs(is_test(shared_test(4)), False)

    def test_how_many_patterns_in_a_test(self):
        for way in WAYS:
            self.assertIs(is_test(("lacks", way, chain(8, way=way))), True)
            self.assertIs(is_test(("lacks", way, chain(9))), False)
        self.assertIs(is_test(("both", ("lacks", "kid", chain(4)), ("lacks", "kid", chain(4)))), True)
        self.assertIs(is_test(("both", ("lacks", "kid", chain(4)), ("lacks", "kid", chain(5)))), False)

    def test_very_often_shared(self):
        self.assertIs(is_test(shared_test(58)), False)
        self.assertIs(is_test(("lacks", "kid", shared_pattern(28))), False)
        self.assertIs(is_pattern(pattern(shared_test(50))), False)


class PatternsTest(RefusalChecks, unittest.TestCase):
    def test_right_ones(self):
        for told in (pattern(), pattern(mark="m"), pattern(mark="abcdefgh"), chain(8),
                     *[pattern(ANY, (way, pattern(("tag", "b"), mark="x"))) for way in WAYS]):
            self.assertIs(is_pattern(told), True)

    def test_wrong_ones(self):
        good = pattern(("tag", "a"), ("kid", pattern()), ("over", pattern(mark="x")), mark="m")
        self.assertIs(is_pattern(good), True)
        things = [None, True, 0, "", [], {}, (), ANY, list(good), good[:2], good + ((),), (good,), very_many()]
        things.extend([(mark,) + good[1:] for mark in (None, True, 0, "M", "abcdefghi", "a b", ["m"], ("m",), (), very_many())])
        things.extend([(good[0], test, good[2]) for test in (None, "any", ["any"], (), good)])
        things.extend([good[:2] + (needs,) for needs in (None, "", [], {}, 0, list(good[2]), good[2][0], ((),), (None,),
                                                         (list(good[2][0]),), (("kid",),), (("kid", pattern(), ()),),
                                                         ((pattern(), "kid"),), (("kid", ANY),), very_many(),
                                                         (("kid", very_many()),), (very_many(),))])
        things.extend([good[:2] + (((way, pattern()),),) for way in NO_WAYS])
        for number, thing in enumerate(things):
            self.assertIs(is_pattern(thing), False, number)
            if thing is not None:
                self.assertIs(is_pattern(pattern(ANY, ("kid", pattern()), ("kid", thing))), False, number)
                self.assertIs(is_test(("lacks", "kid", thing)), False, number)

    def test_how_many_patterns(self):
        self.assertIs(is_pattern(chain(8)), True)
        self.assertIs(is_pattern(chain(9)), False)
        self.assertIs(is_pattern(pattern(ANY, *[("kid", pattern())] * 7)), True)
        self.assertIs(is_pattern(pattern(ANY, *[("kid", pattern())] * 8)), False)
        self.assertIs(is_pattern(pattern(ANY, *[("kid", pattern())] * 10 ** 5)), False)
        self.assertIs(is_pattern(pattern(("lacks", "kid", chain(3)), ("kid", chain(4)))), True)
        self.assertIs(is_pattern(pattern(("lacks", "kid", chain(4)), ("kid", chain(4)))), False)
        self.assertIs(is_pattern(pattern(("lacks", "kid", pattern(("lacks", "kid", chain(6)))))), True)
        self.assertIs(is_pattern(pattern(("lacks", "kid", pattern(("lacks", "kid", chain(7)))))), False)
        self.assertIs(is_pattern(pattern(ANY, ("kid", pattern(("lacks", "kid", chain(7)))))), False)

    def test_how_many_tests(self):
        self.assertIs(is_pattern(pattern(nots(16))), True)
        self.assertIs(is_pattern(pattern(nots(17))), False)
        self.assertIs(is_pattern(chain(8, nots(2))), True)
        self.assertIs(is_pattern(pattern(nots(3), ("kid", chain(7, nots(2))))), False)
        self.assertIs(is_pattern(pattern(nots(9), ("kid", chain(7)))), True)
        self.assertIs(is_pattern(pattern(nots(10), ("kid", chain(7)))), False)
        self.assertIs(is_pattern(pattern(("lacks", "kid", pattern(nots(14))), ("kid", pattern()))), True)
        self.assertIs(is_pattern(pattern(("lacks", "kid", pattern(nots(14))), ("kid", pattern(nots(2))))), False)

    def test_marks(self):
        one, two, three = [("kid", pattern(mark=mark)) for mark in ("x", "y", "z")]
        for told, right in (
            (pattern(ANY, one, two), True), (pattern(ANY, one, mark="m"), True), (pattern(ANY, one, two, mark="m"), False),
            (pattern(ANY, one, two, three), False), (pattern(ANY, one, one), False), (pattern(ANY, one, mark="x"), False),
            (pattern(ANY, ("kid", pattern(ANY, two, mark="x"))), True),
            (pattern(ANY, ("kid", pattern(ANY, one, mark="x"))), False),
            (pattern(ANY, ("kid", pattern(ANY, two, mark="x")), three), False),
            (pattern(LACKS, one, two), True), (pattern(("lacks", "kid", pattern(mark="m")), one), False),
            (pattern(("not", ("lacks", "kid", pattern(mark="m")))), False),
            (pattern(("lacks", "kid", pattern(ANY, one)), mark="m"), False),
        ):
            self.assertIs(is_pattern(told), right, told)

    def test_very_often_shared(self):
        self.assertIs(is_pattern(shared_pattern(2)), True)
        self.assertIs(is_pattern(shared_pattern(3)), False)
        for levels in (10, 28):
            self.assertIs(is_pattern(shared_pattern(levels)), False)
            self.assertIs(is_pattern(shared_pattern(levels, list)), False)

    def test_own_ones_and_all_of_them(self):
        inner, deeper, lacked = pattern(("tag", "i")), pattern(("tag", "d")), pattern(("tag", "l"))
        first = pattern(("tag", "f"), ("next", deeper), mark="x")
        outer = pattern(("lacks", "kid", inner), ("over", lacked))
        told = pattern(("both", ("not", ("lacks", "kid", outer)), ("one", ("lacks", "above", lacked), ANY)),
                       ("kid", first), ("later", pattern(mark="y")))
        self.assertEqual(own_patterns(told), (told, first, deeper, pattern(mark="y")))
        self.assertEqual(all_patterns(told), (told, outer, inner, lacked, lacked, first, deeper, pattern(mark="y")))
        self.assertEqual(marks_of(told), ("x", "y"))
        self.assertEqual(marks_of(pattern(ANY, ("kid", pattern(mark="a")), mark="z")), ("z", "a"))
        self.assertEqual((own_patterns(inner), all_patterns(inner), marks_of(inner)), ((inner,), (inner,), ()))
        for test in GOOD_TESTS:
            told = pattern(test, ("kid", pattern(test)), ("next", pattern(ANY, ("over", pattern(test, mark="m")))))
            if is_pattern(told):
                self.assertEqual(own_patterns(told), tuple(own_of(told)))
                self.assertEqual(all_patterns(told), tuple(all_of(told)))

    def test_clear(self):
        clear = pattern(("both", ("tag", "a"), ("lacks", "beneath", pattern(("starts", "b")))), ("kid", pattern(("kids", 0, 2))),
                        ("beneath", pattern(mark="m")))
        self.assertIs(is_clear(clear), True)
        self.assertIs(is_clear(pattern()), True)
        for way in WAYS:
            right = way in ("kid", "beneath")
            for told in (pattern(ANY, (way, pattern())), pattern(ANY, ("kid", pattern(ANY, (way, pattern())))),
                         pattern(("lacks", way, pattern())), pattern(("not", ("one", ANY, ("lacks", way, pattern())))),
                         pattern(("lacks", "kid", pattern(ANY, (way, pattern())))),
                         pattern(("lacks", "kid", pattern(("lacks", way, pattern())))),
                         pattern(ANY, ("kid", pattern()), ("beneath", pattern(("lacks", way, pattern()))))):
                self.assertIs(is_clear(told), right, told)
        for test in (("at", 0), ("not", ("at", 1)), ("both", ANY, ("at", 0)), ("one", ("at", 0), ANY),
                     ("lacks", "kid", pattern(("at", 0))), ("lacks", "kid", pattern(ANY, ("kid", pattern(("at", 0)))))):
            self.assertIs(is_clear(pattern(test)), False, test)
            self.assertIs(is_clear(pattern(ANY, ("kid", pattern(test)))), False, test)

    def test_no_pattern(self):
        for call in (own_patterns, all_patterns, marks_of, is_clear):
            for thing in ODDITIES + [ANY, chain(9), pattern(nots(17)), list(pattern()), shared_pattern(28), pattern(LACKS, mark="M")]:
                self.refused(("NoPattern", "pattern"), call, thing)
        self.assertIsInstance(refusal_of(is_clear, None), errors.NoThing)


class WaysTest(RefusalChecks, unittest.TestCase):
    def test_told_ones(self):
        self.assertEqual(WAYS, ("kid", "beneath", "next", "later", "above", "over"))
        for path, told in (
            ((), ([(0,), (1,), (2,)], places_of(SMALL)[1:], [], [], [], [])),
            ((0,), ([(0, 0), (0, 1)], [(0, 0), (0, 1), (0, 1, 0)], [(1,)], [(1,), (2,)], [()], [()])),
            ((2,), ([(2, 0), (2, 1), (2, 2)], [(2, 0), (2, 1), (2, 2)], [], [], [()], [()])),
            ((0, 1, 0), ([], [], [], [], [(0, 1)], [(), (0,), (0, 1)])),
            ((2, 0), ([], [], [(2, 1)], [(2, 1), (2, 2)], [(2,)], [(), (2,)])),
            ((2, 2), ([], [], [], [], [(2,)], [(), (2,)])),
        ):
            self.assertEqual(tuple(places_by(SMALL, way, path) for way in WAYS), told, path)

    def test_each_way_at_each_place(self):
        for tree in SAMPLES + [fan(60), line(12), stair(12)]:
            places = places_of(tree)
            for way in WAYS:
                for path in places:
                    told = places_by(tree, way, path)
                    self.assertIsInstance(told, list)
                    self.assertEqual(told, [other for other in places if leads(way, path, other)], (way, path))

    def test_refusals_in_their_order(self):
        for thing in ODDITIES:
            self.refused(("NoTree",), places_by, thing, None, None)
            self.refused(("NoPath",), places_by, SMALL, "kid", thing)
        for way in NO_WAYS:
            self.refused(("NoWay", "way"), places_by, SMALL, way, None)
            self.refused(("NoWay", "way"), places_by, SMALL, way, (9,))
        for way in WAYS:
            self.refused(("NoPlace", (3,)), places_by, SMALL, way, (3,))
            self.refused(("NoPlace", (0,)), places_by, leaf(), way, (0,))
        self.assertIsInstance(refusal_of(places_by, SMALL, None, None), errors.NoThing)


if __name__ == "__main__":
    unittest.main()
