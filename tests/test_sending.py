"""Texts and numbers of trees [57], read back or torn [58], and where a part stands in them [59]."""

import re
import unittest

from tests.refusals import RefusalChecks, refusal_of, told_of
from tests.samples import ODDITIES, SAMPLES, SMALL, fan, leaf, line, stair, very_many
from treelore import errors
from treelore.sending import sent_numbers, span, span_of_numbers, text_of, tree_in, tree_of_numbers
from treelore.trees import is_tree, part_of, places_of

TREES = SAMPLES + [fan(60), line(12), stair(12), ("abcdefgh", (leaf("z"), leaf("az"))), ("a", (line(11), fan(48)))]


def is_text_of_a_tree(text):
    """The meaning of [57] by another way: tags become 1, and a tag with its brackets is folded into one 2."""
    tags = re.findall("[a-z]+", text)
    folded, last = re.sub("[a-z]+", "1", re.sub("[0-9]", "!", text)), None
    while folded != last:
        folded, last = re.sub(r"1\([12](,[12])*\)", "2", folded), folded
    heights = [text[:at].count("(") - text[:at].count(")") for at in range(len(text) + 1)]
    return folded in ("1", "2") and len(tags) <= 60 and max(map(len, tags)) <= 8 and max(heights) <= 11


def some_text_begins(text):
    """Whether some tree's text begins so: its shortest end is put behind it."""
    end = "a" if text == "" or text[-1] in "(," else ""
    return is_text_of_a_tree(text + end + ")" * (text.count("(") - text.count(")")))


def torn_text_at(text):
    """What Torn's field is due to be, None where the text is a tree's."""
    if is_text_of_a_tree(text):
        return None
    at = 0
    while at < len(text) and some_text_begins(text[:at + 1]):
        at += 1
    return at


def shortest_end(numbers):
    """The numbers with their shortest end behind them, () where they have more than a tree, or what is no number."""
    numbers, at, due = list(numbers), 0, 1
    while due:
        for thing, low, high in ((0, 0, 59), (1, 1, 8)):
            if at == len(numbers):
                numbers.append(thing)
            if isinstance(numbers[at], bool) or not isinstance(numbers[at], int) or not low <= numbers[at] <= high:
                return ()
            at += 1
        due += numbers[at - 2] - 1
        many = numbers[at - 1]
        numbers.extend([1] * (at + many - len(numbers)))
        at += many
    return tuple(numbers) if at == len(numbers) else ()


def tree_by_numbers(numbers, at=0):
    """The tree of whole numbers, without a look at the bounds, and the number behind it."""
    many, length = numbers[at:at + 2]
    letters = numbers[at + 2:at + 2 + length]
    fair = all(isinstance(thing, int) and not isinstance(thing, bool) and 1 <= thing <= 26 for thing in letters)
    # What has no fair letters gets a tag that is none, so that the whole is no tree.
    tag, at, kids = "".join(chr(96 + thing) for thing in letters) if fair else "", at + 2 + length, []
    for _ in range(many):
        kid, at = tree_by_numbers(numbers, at)
        kids.append(kid)
    return (tag, tuple(kids)), at


def some_numbers_begin(numbers):
    whole = shortest_end(numbers)
    return whole != () and is_tree(tree_by_numbers(whole)[0])


def torn_numbers_at(numbers):
    at = 0
    while at < len(numbers) and some_numbers_begin(numbers[:at + 1]):
        at += 1
    if at == len(numbers) and shortest_end(numbers) == numbers:
        return None
    return at


class TextTest(RefusalChecks, unittest.TestCase):
    def test_told_ones(self):
        self.assertEqual(text_of(leaf()), "a")
        self.assertEqual(text_of(("a", (leaf("b"), ("c", (leaf("d"),))))), "a(b,c(d))")
        self.assertEqual(text_of(SMALL), "a(b(c,d(e)),f,g(h,i,j))")
        self.assertEqual(text_of(line(12)), "a(" * 11 + "a" + ")" * 11)
        self.assertEqual(text_of(fan(60)), "a(" + "b," * 58 + "b)")

    def test_read_back(self):
        for tree in TREES:
            self.assertTrue(is_text_of_a_tree(text_of(tree)))
            self.assertEqual(tree_in(text_of(tree)), tree)
        self.assertEqual(len({text_of(tree) for tree in TREES}), len(TREES))

    def test_torn_ends(self):
        for tree in TREES:
            text = text_of(tree)
            for at in range(len(text)):
                self.check_text(text[:at])
            self.assertEqual(torn_text_at(text[:-1]), None if tree[1] == () and len(text) > 1 else len(text) - 1)

    def test_torn_beginnings_and_middles(self):
        for tree in SAMPLES + [line(12), ("abcdefgh", (leaf("z"), leaf("az")))]:
            text = text_of(tree)
            for at in range(len(text) + 1):
                self.check_text(text[at:])
                self.check_text(text[:at] + text[at + 1:])
                for sign in "az(),AZ`{0 \n\t~":
                    self.check_text(text[:at] + sign + text[at:])
                    self.check_text(text[:at] + sign + text[at + 1:])

    def check_text(self, text):
        at = torn_text_at(text)
        told = told_of(refusal_of(tree_in, text))
        self.assertEqual(told, None if at is None else ("Torn", at), text)

    def test_told_torn_ones(self):
        for text, at in (("", 0), ("(", 0), (",", 0), ("A", 0), (" a", 0), ("a ", 1), ("a)", 1), ("a,b", 1), ("a(", 2),
                         ("a()", 2), ("a(,b)", 2), ("a(b", 3), ("a(b,", 4), ("a(b,)", 4), ("a(b)c", 4), ("a(b))", 4),
                         ("a(b)(c)", 4), ("a(b(c)", 6), ("a(bB)", 3), ("a\n", 1)):
            self.refused(("Torn", at), tree_in, text)
            self.assertEqual(torn_text_at(text), at)

    def test_bounds(self):
        self.refused(("Torn", 8), tree_in, "abcdefghi")
        self.refused(("Torn", 10), tree_in, "a(bcdefghij)")
        self.refused(("Torn", 8), tree_in, "a" * 100000)
        deep = "a(" * 11 + "a"
        self.refused(("Torn", 23), tree_in, deep + "(a" + ")" * 12)
        self.refused(("Torn", 23), tree_in, deep)
        self.refused(("Torn", 25), tree_in, deep + ",a(a)" + ")" * 11)
        self.refused(("Torn", 45), tree_in, "a(a," * 11 + "a(a)" + ")" * 11)
        many = "a(" + "b," * 58 + "b"
        for sign in ",(":
            self.refused(("Torn", len(many)), tree_in, many + sign + "b)")
        self.refused(("Torn", len(many)), tree_in, many)
        self.refused(("Torn", len(many) + 1), tree_in, many + "b(c))")
        self.assertEqual(tree_in(many + "bcdefgh)")[1][58], leaf("bbcdefgh"))
        self.refused(("Torn", 120), tree_in, "a(b(c" + ",c" * 57 + ")" + ",b)")

    def test_no_text(self):
        for thing in ODDITIES:
            if not isinstance(thing, str):
                self.refused(("NoText",), tree_in, thing)
        for thing in (("a",), ["a"], leaf(), 0, ()):
            self.refused(("NoText",), tree_in, thing)

    def test_refusals_of_no_trees(self):
        for thing in ODDITIES:
            self.refused(("NoTree",), text_of, thing)
            self.refused(("NoTree",), sent_numbers, thing)
            for call in (span, span_of_numbers):
                self.refused(("NoTree",), call, thing, thing)
                self.refused(("NoPath",), call, SMALL, thing)
        for call in (span, span_of_numbers):
            for path in ((3,), (0, 2), (1, 0)):
                self.refused(("NoPlace", path), call, SMALL, path)
        self.assertIsInstance(refusal_of(tree_in, ""), errors.Cut)
        self.assertIsInstance(refusal_of(tree_of_numbers, ()), errors.Cut)


class NumbersTest(RefusalChecks, unittest.TestCase):
    def test_told_ones(self):
        self.assertEqual(sent_numbers(leaf()), (0, 1, 1))
        self.assertEqual(sent_numbers(("az", (leaf("b"), ("c", (leaf("d"),))))), (2, 2, 1, 26, 0, 1, 2, 1, 1, 3, 0, 1, 4))

    def test_read_back(self):
        for tree in TREES:
            self.assertEqual(tree_of_numbers(sent_numbers(tree)), tree)
            self.assertIsInstance(sent_numbers(tree), tuple)
        self.assertEqual(len({sent_numbers(tree) for tree in TREES}), len(TREES))

    def test_torn_ends(self):
        for tree in TREES:
            numbers = sent_numbers(tree)
            for at in range(len(numbers)):
                self.refused(("Torn", at), tree_of_numbers, numbers[:at])
                self.assertEqual(torn_numbers_at(numbers[:at]), at)

    def test_torn_beginnings_and_middles(self):
        for tree in SAMPLES + [("a", (line(11), leaf())), ("abcdefgh", (leaf("z"), leaf("az")))]:
            numbers = sent_numbers(tree)
            for at in range(len(numbers) + 1):
                self.check_numbers(numbers[at:])
                self.check_numbers(numbers[:at] + numbers[at + 1:])
                for thing in (0, 1, 2, 8, 9, 26, 27, 59, 60, -1, 10 ** 59, True, False, None, "a", (), [1], {}):
                    self.check_numbers(numbers[:at] + (thing,) + numbers[at:])
                    self.check_numbers(numbers[:at] + (thing,) + numbers[at + 1:])

    def check_numbers(self, numbers):
        at = torn_numbers_at(numbers)
        told = told_of(refusal_of(tree_of_numbers, numbers))
        self.assertEqual(told, None if at is None else ("Torn", at), numbers)

    def test_told_torn_ones(self):
        for numbers, at in (((), 0), ((0,), 1), ((0, 0), 1), ((0, 9), 1), ((0, 8), 2), ((0, 1), 2), ((0, 1, 0), 2),
                            ((0, 1, 27), 2), ((0, 1, 26, 0), 3), ((True, 1, 1), 0), ((0, True, 1), 1), ((0, 1, True), 2),
                            ((1, 1, 1), 3), ((1, 1, 1, 0, 1), 5), ((60,), 0), ((59,), 1), ((-1,), 0), (("0",), 0),
                            (((0, 1, 1),), 0), ((very_many(), 1, 1), 0), ((0, very_many(58, list)), 1)):
            self.refused(("Torn", at), tree_of_numbers, numbers)

    def test_bounds(self):
        self.refused(("Torn", 3), tree_of_numbers, (59, 1, 1, 1, 1, 2))
        self.refused(("Torn", 6), tree_of_numbers, (58, 1, 1, 1, 1, 2, 1, 1, 2))
        self.refused(("Torn", 3), tree_of_numbers, (2, 1, 1, 58))
        self.refused(("Torn", 4), tree_of_numbers, (2, 1, 1, 57))
        deep = (1, 1, 1) * 11
        self.refused(("Torn", 33), tree_of_numbers, deep + (1, 1, 1, 0, 1, 1))
        self.refused(("Torn", 36), tree_of_numbers, deep + (0, 1, 1, 0))
        self.assertEqual(tree_of_numbers(deep + (0, 1, 1)), line(12))
        self.refused(("Torn", 66), tree_of_numbers, (2, 1, 1, 0, 1, 1) * 11 + (1, 1, 1, 0, 1, 1))

    def test_no_numbers(self):
        for thing in ODDITIES + [[0, 1, 1], "011", 0]:
            if not isinstance(thing, tuple):
                self.refused(("NoNumbers",), tree_of_numbers, thing)


class SpanTest(unittest.TestCase):
    def test_told_ones(self):
        tree = ("ab", (leaf("b"), ("cde", (leaf("d"),))))
        self.assertEqual([span(tree, path) for path in ((), (0,), (1,), (1, 0))], [(0, 12), (3, 4), (5, 11), (9, 10)])
        self.assertEqual([span_of_numbers(tree, path) for path in ((), (0,), (1,), (1, 0))],
                         [(0, 15), (4, 7), (7, 15), (12, 15)])

    def test_each_place(self):
        for tree in TREES:
            for path in places_of(tree):
                begin, end = span(tree, path)
                self.assertEqual(text_of(tree)[begin:end], text_of(part_of(tree, path)))
                self.assertIsInstance(span(tree, path), tuple)
                begin, end = span_of_numbers(tree, path)
                self.assertEqual(sent_numbers(tree)[begin:end], sent_numbers(part_of(tree, path)))

    def test_spans_rise_in_the_walk_ahead(self):
        for tree in TREES:
            for call in (span, span_of_numbers):
                begins = [call(tree, path)[0] for path in places_of(tree)]
                self.assertEqual(begins, sorted(set(begins)))


if __name__ == "__main__":
    unittest.main()
