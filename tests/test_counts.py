"""Kept numbers: [41], count papers [42], counts beside a make [43]."""

import unittest

from tests.kinds import MAKES
from tests.model import fitting, judged, knob_of, knobs_of
from tests.refusals import RefusalChecks, refusal_of
from tests.samples import ODDITIES, SAMPLES, SMALL, deed_row, fan, leaf, line, stair, very_many
from treelore import errors
from treelore.counts import Counts, count_paper, right_counts
from treelore.keeping import Keeper
from treelore.makes import Hearer, Make

PAPER = (
    ((), 10, 4), ((0,), 4, 3), ((0, 0), 1, 1), ((0, 1), 2, 2), ((0, 1, 0), 1, 1), ((1,), 1, 1), ((2,), 4, 2), ((2, 0), 1, 1),
    ((2, 1), 1, 1), ((2, 2), 1, 1),
)


def plain_paper(tree):
    places = [path for path, _ in knobs_of(knob_of(tree))]
    rows = []
    for path in places:
        within = [other for other in places if other[:len(path)] == path]
        rows.append((path, len(within), max(len(other) for other in within) - len(path) + 1))
    return tuple(rows)


class PaperTest(RefusalChecks, unittest.TestCase):
    def test_right_ones(self):
        self.assertEqual(count_paper(SMALL), PAPER)
        for tree in SAMPLES + [fan(60), line(12), stair(12)]:
            self.assertEqual(count_paper(tree), plain_paper(tree))
            self.assertIs(right_counts(tree, plain_paper(tree)), True)

    def test_bent_at_each_row(self):
        for at, (path, size, height) in enumerate(PAPER):
            ahead, behind = PAPER[:at], PAPER[at + 1:]
            row = PAPER[at]
            rows = [(path, size + 1, height), (path, size - 1, height), (path, size, height + 1), (path, size, height - 1),
                    (path, height + 5, size), (path, -size, height), (path, str(size), height), (path, size, None), (path, size),
                    (path, size, height, 0), list(row), (list(path), size, height), (path, (size,), height), None, 0, True, "",
                    {}, (), path, (None, size, height), ((60,), size, height), (very_many(), size, height), very_many(),
                    (path, 10 ** 59, height), (path, size, [height])]
            if size == 1:
                rows.extend([(path, True, 1), (path, 1, True), (path, True, True), (path, 1, 0), (path, 0, 1)])
            rows.extend([(path[:step] + (bool(number),) + path[step + 1:], size, height) for step, number in enumerate(path)
                         if number < 2])
            rows.extend([(other[0], size, height) for other in PAPER if other != row])
            for number, other in enumerate(rows):
                self.assertIs(right_counts(SMALL, ahead + (other,) + behind), False, (at, number))
            self.assertIs(right_counts(SMALL, ahead + behind), False)
            self.assertIs(right_counts(SMALL, ahead + (row, row) + behind), False)
            self.assertIs(right_counts(SMALL, ahead + (row, (path + (len(PAPER),), 1, 1)) + behind), False)
            if at:
                self.assertIs(right_counts(SMALL, PAPER[:at - 1] + (row, PAPER[at - 1]) + behind), False)

    def test_things_that_are_no_papers(self):
        for thing in ODDITIES + [(), 0, "", list(PAPER), PAPER[::-1], (PAPER,), PAPER + (((3,), 1, 1),), plain_paper(fan(10)),
                                 PAPER * 10 ** 4]:
            self.assertIs(right_counts(SMALL, thing), False)
        self.assertIs(right_counts(leaf(), (((), 1, 1),)), True)
        self.assertIs(right_counts(leaf(), (((), True, 1),)), False)

    def test_papers_that_agree_with_themselves_alone(self):
        # Each row's numbers follow from its kids' rows, but the places are another tree's.
        self.assertIs(right_counts(SAMPLES[2], plain_paper(line(4))), False)
        self.assertIs(right_counts(line(4), plain_paper(SAMPLES[2])), False)
        self.assertIs(right_counts(line(4), plain_paper(line(5))), False)
        self.assertIs(right_counts(line(5), plain_paper(line(4))), False)

    def test_no_tree(self):
        for thing in ODDITIES:
            self.refused(("NoTree",), count_paper, thing)
            self.refused(("NoTree",), right_counts, thing, None)


class CountsTest(RefusalChecks, unittest.TestCase):
    def check_counts(self, counts, tree):
        knobs = knobs_of(knob_of(tree))
        paper = plain_paper(tree)
        self.assertEqual(counts.paper(), paper)
        for number, (path, size, height) in enumerate(paper):
            self.assertEqual((counts.size_at(path), counts.height_at(path), counts.number_of(path)), (size, height, number))
            self.assertEqual(counts.kth(number), path)
        self.refused(("NoKth", len(paper)), counts.kth, len(paper))
        tags = [knob.tag for _, knob in knobs]
        self.assertEqual(counts.tags(), tuple((tag, tags.count(tag)) for tag in sorted(set(tags))))
        for tag in set(tags) | {"zzzz"}:
            self.assertEqual(counts.of_tag(tag), tags.count(tag))
        lengths = [len(path) for path, _ in knobs]
        self.assertEqual(counts.levels(), tuple(lengths.count(level) for level in range(max(lengths) + 1)))
        self.assertEqual(counts.leaves(), len([knob for _, knob in knobs if not knob.kids]))

    def test_at_first(self):
        for kind in MAKES:
            for tree in SAMPLES + [fan(60), line(12), stair(12)]:
                counts = Counts(kind(tree))
                self.assertIsInstance(counts, Hearer)
                self.check_counts(counts, tree)

    def test_behind_every_deed(self):
        for tree in SAMPLES:
            for deed in fitting(tree):
                make = Make(tree)
                counts = Counts(make)
                make.do(deed)
                self.check_counts(counts, judged(tree, deed)[0])

    def test_rows_of_deeds_over_each_kind_of_make(self):
        for kind in MAKES:
            for seed, tree in enumerate(SAMPLES):
                make = kind(tree)
                counts = Counts(make)
                deeds = deed_row(tree, 12, seed + 190)
                for deed in deeds:
                    make.do(deed)
                    tree = judged(tree, deed)[0]
                    self.check_counts(counts, tree)
                other = kind(SAMPLES[seed])
                counts = Counts(other)
                other.do_all(deeds)
                self.check_counts(counts, tree)

    def test_backs_and_refused_deeds(self):
        make = Make(SMALL)
        keeper, counts = Keeper(make), Counts(make)
        make.do_all([("out", (0,)), ("name", (), "z")])
        keeper.back()
        self.check_counts(counts, ("a", SMALL[1][1:]))
        keeper.back()
        self.check_counts(counts, SMALL)
        self.refused(("Stopped", 1), make.do_all, [("out", (0,)), ("out", ())])
        self.refused(("Root", ()), make.do, ("out", ()))
        self.check_counts(counts, SMALL)

    def test_told_ones(self):
        counts = Counts(Make(SMALL))
        self.assertEqual(counts.levels(), (1, 3, 5, 1))
        self.assertEqual(counts.leaves(), 6)
        self.assertEqual(counts.tags(), tuple((tag, 1) for tag in "abcdefghij"))
        counts = Counts(Make(fan(60)))
        self.assertEqual((counts.tags(), counts.levels(), counts.leaves()), ((("a", 1), ("b", 59)), (1, 59), 59))
        self.assertEqual(Counts(Make(leaf())).levels(), (1,))

    def test_the_least_common_part(self):
        counts = Counts(Make(SMALL))
        for paths, told in (
            ([()], ()), ([(0, 1, 0)], (0, 1, 0)), ([(0, 0), (0, 1, 0)], (0,)), ([(0, 1), (0, 1, 0)], (0, 1)), ([(2, 0), (2, 0)], (2, 0)),
            ([(2, 2), (2, 0), (2, 1)], (2,)), ([(0, 1, 0), (1,)], ()), ([(0,), ()], ()), ([(1,), (2,)], ()),
            ([(0, 1, 0), (0, 1), (0,)], (0,)),
        ):
            self.assertEqual(counts.common(paths), told, paths)
            self.assertEqual(counts.common(paths[::-1]), told, paths)
        for one, _, _ in PAPER:
            for other, _, _ in PAPER:
                begin = max(path for path, _, _ in PAPER if one[:len(path)] == path and other[:len(path)] == path)
                self.assertEqual(counts.common([one, other]), begin)
        paths = [(0, 1, 0), (0, 0)]
        counts.common(paths)
        self.assertEqual(paths, [(0, 1, 0), (0, 0)])

    def test_no_common_part(self):
        counts = Counts(Make(SMALL))
        for thing in ODDITIES + [(), ((0,),), "", 0, None, {}, [], [None], [(0,), [0]], [(9,), None], [(True,)], [(0,), (0,) * 12],
                                 [very_many()], [(0,), (60,)]]:
            if thing != [()]:
                self.refused(("NoPath",), counts.common, thing)
        self.refused(("NoPlace", (9,)), counts.common, [(0,), (9,), (8,)])
        self.refused(("NoPlace", (0, 2)), counts.common, [(0, 2), (9,)])

    def test_no_count_and_no_kth(self):
        counts = Counts(Make(SMALL))
        for thing in (None, True, False, -1, -10 ** 59, "0", "", (), (0,), [], [0], {}, very_many()):
            self.refused(("NoCount", "number"), counts.kth, thing)
        for number in (10, 11, 60, 10 ** 59):
            self.refused(("NoKth", number), counts.kth, number)
        self.assertIsInstance(refusal_of(counts.kth, None), errors.NoThing)
        self.assertIsInstance(refusal_of(counts.kth, 10), errors.NoFit)

    def test_no_path_no_place_and_no_tag(self):
        make = Make(SMALL)
        counts = Counts(make)
        for call in (counts.size_at, counts.height_at, counts.number_of):
            for thing in ODDITIES:
                self.refused(("NoPath",), call, thing)
            for path in ((3,), (0, 2), (1, 0)):
                self.refused(("NoPlace", path), call, path)
        for thing in ODDITIES + ["", 0, "Ab", "abcdefghi"]:
            self.refused(("NoTag",), counts.of_tag, thing)
        make.do(("out", (2,)))
        self.refused(("NoPlace", (2,)), counts.size_at, (2,))

    def test_a_paper_stays(self):
        make = Make(SMALL)
        counts = Counts(make)
        paper = counts.paper()
        make.do(("out", (0,)))
        self.assertEqual(paper, PAPER)


if __name__ == "__main__":
    unittest.main()
