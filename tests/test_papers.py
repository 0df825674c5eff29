"""Papers of columns [62]."""

import unittest

from tests.grown import Mixer, mixed_tree, retagged, shapes
from tests.refusals import RefusalChecks
from tests.samples import ODDITIES, SAMPLES, SMALL, fan, leaf, line, stair, very_many
from tests.sketch import least, levels_of, pushed, wider
from treelore.drawing import columns_of
from treelore.papers import columns_paper, right_columns
from treelore.trees import part_of, places_of

TAGS = ("a", "bb", "cccc", "dddddddd")
# Beneath an early kid more room is needed than above it: so there are firsts as well as aboves.
PUSHED = ("a", (leaf("b"), ("c", (("d", (leaf("e"),)),)), ("f", (("g", (leaf("hhhh"), leaf("i"))), leaf("j")))))
SECOND = ("a", (("b", (leaf("c"), leaf("d"), leaf("e"))), ("f", (("g", (leaf("h"),)),))))
TREES = SAMPLES + [PUSHED, SECOND, line(12), stair(12), fan(60)] + [mixed_tree(seed, 3 + 7 * seed % 58, TAGS) for seed in range(16)]


def plainly_right(tree, paper):
    """[62] by its words; of a paper whose rows have the right forms."""
    if [row[0] for row in paper] != places_of(tree):
        return False
    columns = {row[0]: row[1] for row in paper}
    ranks = {row[0]: row[3] for row in paper}
    if pushed(tree, columns) != columns:
        return False
    for path, column, why, rank in paper:
        row = levels_of(tree)[len(path)]
        kids = part_of(tree, path)[1]
        wanted = {"edge": None, "first": path + (0,) if kids else None,
                  "above": path[:-1] if path and path[-1] == 0 else None,
                  "beside": row[row.index(path) - 1] if row.index(path) else None}
        if why[0] == "edge":
            if column != 0 or len(why) != 1:
                return False
            continue
        other = wanted[why[0]]
        if other is None or why[1:] != (other,) or rank <= ranks[other]:
            return False
        room = len(part_of(tree, other)[0]) + 1 if why[0] == "beside" else 0
        if column != columns[other] + room:
            return False
    return True


class PapersTest(RefusalChecks, unittest.TestCase):
    def test_columns_paper(self):
        words = set()
        trees = TREES + [retagged(shape, size + number, TAGS) for size in range(1, 7) for number, shape in enumerate(shapes(size))]
        for tree in trees:
            paper = columns_paper(tree)
            self.assertEqual([row[:2] for row in paper], columns_of(tree))
            self.assertTrue(plainly_right(tree, paper))
            self.assertIs(right_columns(tree, paper), True)
            self.assertEqual(columns_paper(tree), paper)
            words |= {row[2][0] for row in paper}
        self.assertEqual(words, {"edge", "beside", "first", "above"})

    def other_papers(self, tree):
        """Papers with the right columns, all choices of whys taken by a mixer, ranks by how they lean on each other."""
        columns = least(tree)
        for seed in range(12):
            mixer = Mixer(seed)
            whys = {}
            for path in places_of(tree):
                row = levels_of(tree)[len(path)]
                choices = [("edge",)] if columns[path] == 0 else []
                choices += [("first", path + (0,))] if part_of(tree, path)[1] else []
                choices += [("above", path[:-1])] if path and path[-1] == 0 else []
                if row.index(path):
                    left = row[row.index(path) - 1]
                    if columns[left] + len(part_of(tree, left)[0]) + 1 == columns[path]:
                        choices.append(("beside", left))
                whys[path] = mixer.one_of(choices)
            ranks = {path: mixer.below(3) for path in whys}
            for _ in range(len(whys) + 1):
                for path, why in whys.items():
                    if len(why) == 2 and ranks[path] <= ranks[why[1]]:
                        ranks[path] = ranks[why[1]] + 1 + mixer.below(2) * 10 ** 50
            yield tuple((path, columns[path], whys[path], ranks[path]) for path in places_of(tree))

    def test_other_papers(self):
        judged = set()
        for tree in TREES:
            for paper in self.other_papers(tree):
                right = plainly_right(tree, paper)
                judged.add(right)
                # Where whys go round no ranks can rise all along them.
                self.assertIs(right_columns(tree, paper), right)
        self.assertEqual(judged, {True, False})

    def test_bent_at_each_place(self):
        for tree in (SMALL, PUSHED, SECOND, leaf()):
            right = columns_paper(tree)
            places = places_of(tree)
            for at, (path, column, why, rank) in enumerate(right):
                def put(row):
                    return right[:at] + (row,) + right[at + 1:]

                rows = [(path, column + 1, why, rank), (path, column - 1, why, rank), (path, column, why, -1), None, (), path,
                        [path, column, why, rank], (path, column, why), (path, column, why, rank, 0), (path, column, list(why), rank),
                        (list(path), column, why, rank), (path, column, why, None), (path, column, why, True),
                        (path, str(column), why, rank), (path, column, why + (path,), rank), (path, column, (), rank),
                        (path, column, why[0], rank), (path, column, ("edges",) + why[1:], rank), (path, bool(column), why, rank),
                        (path, column, (None,) + why[1:], rank), (path, None, why, rank), (path + (0,), column, why, rank),
                        (path, column, ("edge", path), rank), (path, column, ("first",), rank), (path, column, ("above",), rank),
                        (path, column, ("first", path + (60,)), rank), (path, column, ("under", path[:-1]), rank),
                        (path, column, very_many(), rank), (very_many(), column, why, rank), (path, column, (why[0], {}), rank)]
                for row in rows:
                    self.assertIs(right_columns(tree, put(row)), False, row)
                for word in ("edge", "beside", "first", "above"):
                    for other in [None] + places + [path + (0,), path[:-1] + (-1,), path + (len(part_of(tree, path)[1]),)]:
                        for level in (0, rank, rank + 1, 10 ** 59):
                            row = (path, column, (word,) if other is None else (word, other), level)
                            if (other is None) == (word == "edge"):
                                self.assertIs(right_columns(tree, put(row)), plainly_right(tree, put(row)), row)
                self.assertFalse(right_columns(tree, right[:at] + right[at + 1:]))
                self.assertFalse(right_columns(tree, right[:at] + right[at:at + 1] + right[at:]))
                if at:
                    self.assertFalse(right_columns(tree, right[:at - 1] + (right[at], right[at - 1]) + right[at + 1:]))
                if len(why) == 2:
                    # A rank that is no greater than the other's.
                    low = right[places.index(why[1])][3]
                    self.assertFalse(right_columns(tree, put((path, column, why, low))))
                    self.assertFalse(right_columns(tree, put((path, column, (why[0], list(why[1])), rank))))
                    self.assertFalse(right_columns(tree, put((path, column, (why[0], tuple(map(bool, why[1])) or None), rank))))
            self.assertFalse(right_columns(tree, list(right)))

    def test_columns_of_wider_drawings(self):
        for seed, tree in enumerate(TREES):
            columns = wider(tree, Mixer(seed), 5)
            paper = tuple((path, columns[path], why, rank) for path, _, why, rank in columns_paper(tree))
            self.assertIs(right_columns(tree, paper), columns == least(tree))

    def test_anything(self):
        for thing in ODDITIES:
            self.assertIs(right_columns(SMALL, thing), False)
            self.assertIs(right_columns(leaf(), (thing,)), False)
            self.refused(("NoTree",), right_columns, thing, None)
            self.refused(("NoTree",), columns_paper, thing)
        self.assertIs(right_columns(leaf(), (((), 0, ("edge",), 0),)), True)
        self.assertIs(right_columns(leaf(), (((), 0, ("edge",), 10 ** 59),)), True)
        self.assertIs(right_columns(leaf(), (((), False, ("edge",), 0),)), False)


if __name__ == "__main__":
    unittest.main()
