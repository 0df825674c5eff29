"""Drawings [60], the narrowest one [61], reading back, NoRows and Torn [63], what stands at a sign [64]."""

import itertools
import unittest

from tests.grown import Mixer, mixed_tree, retagged, shapes
from tests.refusals import RefusalChecks, refusal_of
from tests.samples import ODDITIES, SAMPLES, SMALL, fan, leaf, line, stair, very_many
from tests.sketch import all_drawings, least, signs_of, sketched, wider
from treelore import errors
from treelore.drawing import WIDE, columns_of, drawn, is_drawing, read_drawing, sign_at, width_of
from treelore.trees import places_of

TAGS = ("a", "bb", "cccc", "dddddddd")
LONG = "dddddddd"
TREES = SAMPLES + [mixed_tree(seed, 2 + 5 * seed % 59, TAGS) for seed in range(24)] + [
    mixed_tree(30, 60, TAGS), mixed_tree(31, 60, TAGS, deep=3), line(12), stair(12), fan(60), fan(60, LONG), line(12, LONG),
    stair(12, LONG), (LONG, ((LONG, ()),) * 59),
    # Beneath an early kid more room is needed than above it.
    ("a", (("b", (("c", (leaf("d"), leaf("e"), leaf("f"))),)), ("g", (leaf("h"),)), leaf("i"))),
]


class NarrowestTest(RefusalChecks, unittest.TestCase):
    def test_least_columns(self):
        for tree in TREES:
            columns = least(tree)
            self.assertEqual(columns_of(tree), [(path, columns[path]) for path in places_of(tree)])
            self.assertEqual(drawn(tree), sketched(tree, columns))
            self.assertEqual(width_of(tree), max(len(row) for row in drawn(tree)))
            self.assertLessEqual(width_of(tree), WIDE)
        for size in range(1, 7):
            for number, shape in enumerate(shapes(size)):
                tree = retagged(shape, number, TAGS)
                self.assertEqual(dict(columns_of(tree)), least(tree))
                self.assertEqual(drawn(tree), sketched(tree, least(tree)))

    def test_by_hand(self):
        tree = ("root", (("ab", (leaf("x"), leaf("yy"), leaf("z"))), ("c", (("dddd", (leaf("e"), leaf("f"))), leaf("g"))), leaf("h")))
        self.assertEqual(drawn(tree), ("root",
                                       "+------+-+",
                                       "ab     c h",
                                       "+-+--+ +----+",
                                       "x yy z dddd g",
                                       "       +-+",
                                       "       e f"))
        self.assertEqual(width_of(tree), 13)
        self.assertEqual((drawn(leaf("ab")), drawn(line(2)), columns_of(leaf())), (("ab",), ("a", "+", "a"), [((), 0)]))
        # What stands beneath pushes the tree's own place to the right of nothing: its first kids stand at the edge.
        self.assertEqual(columns_of(fan(4)), [((), 0), ((0,), 0), ((1,), 2), ((2,), 4)])

    def test_no_place_can_stand_farther_left(self):
        for seed, tree in enumerate(TREES):
            wide = wider(tree, Mixer(seed), 9)
            self.assertTrue(all(column <= wide[path] for path, column in columns_of(tree)))

    def test_new_each_time(self):
        told = columns_of(SMALL)
        told.clear()
        self.assertEqual(len(columns_of(SMALL)), 10)

    def test_no_tree(self):
        for thing in ODDITIES:
            for call in (columns_of, drawn, width_of):
                self.refused(("NoTree",), call, thing)
            self.refused(("NoTree",), is_drawing, thing, None)
            self.refused(("NoTree",), sign_at, thing, 0, 0)


class ReadTest(RefusalChecks, unittest.TestCase):
    def torn(self, at, thing):
        self.refused(("Torn", at), read_drawing, thing)
        self.assertIs(is_drawing(SMALL, thing), False)

    def test_narrowest_and_wider_ones(self):
        for seed, tree in enumerate(TREES):
            self.assertEqual(read_drawing(drawn(tree)), tree)
            self.assertIs(is_drawing(tree, drawn(tree)), True)
            rows = sketched(tree, wider(tree, Mixer(seed), 7))
            if max(len(row) for row in rows) <= WIDE:
                self.assertEqual(read_drawing(rows), tree)
                self.assertIs(is_drawing(tree, rows), True)
                self.assertIs(is_drawing(leaf("other"), rows), False)

    def test_small_rows_against_all_drawings(self):
        width, levels = 4, 2
        drawings = all_drawings(width, levels)
        known = {drawing[:many] for drawing in drawings for many in range(len(drawing) + 1)}
        self.assertGreater(len(drawings), 40)
        texts = ["".join(signs) for many in range(width + 1) for signs in itertools.product(" +-a", repeat=many)]
        for drawing in drawings:
            self.assertIsNone(refusal_of(read_drawing, drawing))
        heads = [head for head in known if len(head) < 2 * levels - 1]
        for head in heads:
            for text in texts:
                rows = head + (text,)
                refusal = refusal_of(read_drawing, rows)
                if rows not in known:
                    self.assertEqual(refusal.at, len(head), rows)
                elif rows not in drawings:
                    self.assertEqual(refusal.at, len(rows), rows)
                else:
                    self.assertIsNone(refusal, rows)

    def test_three_levels_of_small_rows(self):
        drawings = set(all_drawings(5, 3))
        known = {drawing[:many] for drawing in drawings for many in range(len(drawing) + 1)}
        mixer = Mixer(3)
        rows = sorted(drawings)
        for drawing in rows[::max(1, len(rows) // 4000)]:
            self.assertIsNone(refusal_of(read_drawing, drawing))
            # One sign of one row is another one.
            at = mixer.below(len(drawing))
            place = mixer.below(len(drawing[at]) + 1)
            row = drawing[at][:place] + mixer.one_of(" +-a") + drawing[at][place + 1:]
            bent = drawing[:at] + (row,) + drawing[at + 1:]
            if len(row) <= 5 and bent not in drawings:
                wanted = min([many for many in range(1, len(bent) + 1) if bent[:many] not in known], default=len(bent) + 1) - 1
                self.assertEqual(refusal_of(read_drawing, bent).at, wanted, bent)

    def test_bent_at_each_sign(self):
        tree = TREES[-1]
        right = drawn(tree)
        for at, row in enumerate(right):
            for place in range(len(row) + 1):
                for sign in " +-aB1,\n\t":
                    bent = right[:at] + (row[:place] + sign + row[place + 1:],) + right[at + 1:]
                    self.assertIs(is_drawing(tree, bent), bent == right)

    def test_told_ones(self):
        self.torn(0, ())
        self.torn(1, ("a", "++"))
        self.torn(0, (None,))
        self.torn(1, ("a", None, None))
        self.torn(2, ("a", "+"))
        self.torn(2, ("a", "+", 7))

    def test_at_each_row(self):
        right = drawn(SMALL)
        for at, row in enumerate(right):
            things = [None, 7, True, [row], (row,), {}, "", " ", row + " ", row + "?", row.upper() + "Z", row + "\n", "\t" + row,
                      very_many(), row + " " * 600, "x" * 601, row.encode()]
            for thing in things:
                self.torn(at, right[:at] + (thing,) + right[at + 1:])
            if at % 2 == 0 and at > 0:
                self.torn(at, right[:at])
        self.torn(len(right), right + ("",))
        self.torn(len(right), right + (right[-1],))
        self.assertEqual(read_drawing(right[:3]), ("a", (leaf("b"), leaf("f"), leaf("g"))))

    def test_tags(self):
        self.assertEqual(read_drawing(("abcdefgh",)), leaf("abcdefgh"))
        self.torn(0, ("abcdefghi",))
        self.torn(0, ("a b",))
        self.torn(0, ("a1",))
        self.torn(2, ("a", "+-+", "b"))
        self.torn(2, ("a", "+-+", "bbb"))
        self.torn(2, ("a", "+-+", "b  c"))
        self.torn(2, ("a", "+-+", "b c d"))
        self.torn(2, ("a", "+--+", "b c"))
        self.torn(2, ("a", "+", " b"))
        self.assertEqual(read_drawing(("   a", "   +--+", "   bb c")), ("a", (leaf("bb"), leaf("c"))))

    def test_lines(self):
        head = ("a", "+---+", "b   c")
        for text in ("-", "+-", "-+", "+-+-", "+ -", "++", "+-++", " +", "+ +", "  +", "+-  ", "+=+", "+-----+ +", "b"):
            self.torn(3, head + (text,))
        for text in ("+", "    +", "+-+ +", "+-----+", "+---+", "+   +-+"):
            self.assertEqual(refusal_of(read_drawing, head + (text,)).at, 4, text)
        # Lines that meet: the second one would have to begin where the first one ends, or right behind it.
        self.torn(3, head + ("+--++",))
        self.torn(3, ("a", "+-+", "b c", "+-+-+ +"))
        # Those of b and c become one line of b's.
        self.assertEqual(read_drawing(head + ("+---+", "d   e")), ("a", (("b", (leaf("d"), leaf("e"))), leaf("c"))))

    def test_bounds(self):
        for column in (0, 592):
            self.assertEqual(read_drawing((" " * column + "abcdefgh",)), leaf("abcdefgh"))
        self.torn(0, (" " * 593 + "abcdefgh",))
        self.assertEqual(read_drawing((" " * 599 + "a",)), leaf())
        self.torn(0, (" " * 600 + "a",))
        wide = ("a", "+" + "-" * 598 + "+", "b" + " " * 598 + "c")
        self.assertEqual(read_drawing(wide), ("a", (leaf("b"), leaf("c"))))
        self.torn(1, ("a", "+" + "-" * 599 + "+", "b"))
        self.torn(2, wide[:2] + (wide[2] + "c",))
        sixty = drawn(fan(60))
        self.assertEqual(read_drawing(sixty), fan(60))
        self.torn(1, (sixty[0], sixty[1] + "-+", sixty[2] + " b"))
        # The 61st place, at a later level.
        near = sixty[:1] + (sixty[1][:-2],) + (sixty[2][:-2],)
        self.assertEqual(read_drawing(near + ("+", "c"))[1][0], ("b", (leaf("c"),)))
        self.torn(3, near + ("+-+", "c c"))
        deep = drawn(line(12))
        self.assertEqual(read_drawing(deep), line(12))
        self.torn(23, deep + ("+", "a"))
        self.torn(23, deep + ("",))

    def test_no_rows(self):
        for thing in [None, True, 0, "a", ["a"], [], {}, very_many(made=list), {"a": 1}]:
            if not isinstance(thing, tuple):
                self.refused(("NoRows",), read_drawing, thing)
                self.assertIs(is_drawing(SMALL, thing), False)
        self.assertIsInstance(refusal_of(read_drawing, None), errors.NoThing)
        self.assertIsInstance(refusal_of(read_drawing, ()), errors.Cut)
        for thing in ODDITIES:
            self.assertIs(is_drawing(leaf(), thing), thing == ("a",))


class SignTest(unittest.TestCase):
    def test_each_sign(self):
        for tree in TREES[:20] + TREES[-3:]:
            signs = signs_of(tree, least(tree))
            rows = drawn(tree)
            for row in range(len(rows) + 2):
                for column in range(width_of(tree) + 3):
                    told = signs.get((row, column), (" ", None))[1]
                    self.assertEqual(sign_at(tree, row, column), told)

    def test_far_beyond(self):
        for far in (10 ** 3, 10 ** 59):
            self.assertEqual((sign_at(SMALL, far, 0), sign_at(SMALL, 0, far), sign_at(SMALL, far, far)), (None,) * 3)


if __name__ == "__main__":
    unittest.main()
