"""Texts of paths and deeds, read back [70]."""

import unittest

from tests.model import fitting
from tests.refusals import RefusalChecks
from tests.samples import ODDITIES, SAMPLES, SMALL, fan, leaf, line, very_many
from treelore.trees import places_of
from treelore.words import deed_of_text, deed_text, path_of_text, path_text

TOLD = {
    "name /2/0 ab": ("name", (2, 0), "ab"),
    "put /2 0 root(ab,c)": ("put", (2,), 0, ("root", (leaf("ab"), leaf("c")))),
    "out /2": ("out", (2,)),
    "move /1 /2/0 0": ("move", (1,), (2, 0), 0),
    "swap /1 /2": ("swap", (1,), (2,)),
    "wrap / 0 2 ab": ("wrap", (), 0, 2, "ab"),
    "unwrap /1": ("unwrap", (1,)),
}
# At the bounds.
FAR = (59,) * 11
BOUNDS = [
    ("name", FAR, "abcdefgh"), ("put", FAR, 60, fan(60)), ("put", (), 0, line(12)), ("out", ()), ("move", FAR, FAR, 60),
    ("swap", (), ()), ("wrap", FAR, 60, 60, "z"), ("wrap", (), 0, 0, "z"), ("unwrap", FAR),
]


class PathTextTest(RefusalChecks, unittest.TestCase):
    def test_told(self):
        self.assertEqual((path_text(()), path_text((2, 0)), path_text((59,))), ("/", "/2/0", "/59"))

    def test_read_back(self):
        for path in places_of(fan(60)) + places_of(line(12)) + places_of(SMALL) + [FAR]:
            self.assertEqual(path_of_text(path_text(path)), path)

    def test_no_path(self):
        for thing in ODDITIES:
            self.refused(("NoPath",), path_text, thing)

    def test_texts_that_are_none(self):
        texts = ["", "0", "2/0", "//", "/2/", "/2//0", "/02", "/00", "/60", "/100", "/-1", "/+1", "/ 1", "/1 ", " /1", "/a", "/1\n",
                 "/1/x", "\t/1", "/1_0", "/" + "9" * 60, "/" + "9" * 5000, "/0" * 12, "/0" * 5000, "/1.0", "/True", "/()", "\\2"]
        for text in texts:
            self.refused(("NoPath",), path_of_text, text)
        for thing in [None, True, 0, (), (0,), [], ["/"], {}, ("/",), very_many()]:
            self.refused(("NoPath",), path_of_text, thing)


class DeedTextTest(RefusalChecks, unittest.TestCase):
    def test_told(self):
        for text, deed in TOLD.items():
            self.assertEqual(deed_text(deed), text)
            self.assertEqual(deed_of_text(text), deed)

    def test_read_back(self):
        for deed in BOUNDS + [deed for tree in SAMPLES for deed in fitting(tree)]:
            self.assertEqual(deed_of_text(deed_text(deed)), deed)

    def test_no_deed(self):
        for thing in ODDITIES + [list(TOLD["out /2"]), ("put", (), 61, leaf()), ("out", (60,)), ("name", (), "A")]:
            self.refused(("NoDeed",), deed_text, thing)
            self.refused(("NoDeed",), deed_of_text, thing)

    def test_texts_that_are_none(self):
        for text in TOLD:
            words = text.split(" ")
            for at in range(len(words)):
                bents = [words[:at] + words[at + 1:], words[:at] + [words[at]] + words[at:], words[:at] + ["", words[at]] + words[at + 1:],
                         words[:at] + ["?"] + words[at + 1:], words[:at] + [words[at].upper() + "A"] + words[at + 1:],
                         words[:at] + ["0" + words[at]] + words[at + 1:], words[:at] + [words[at] + "\n"] + words[at + 1:]]
                for bent in bents:
                    self.refused(("NoDeed",), deed_of_text, " ".join(bent))
            for bent in (text + " ", " " + text, text.replace(" ", "  ", 1), text.replace(" ", "\t", 1), text + " /1", text[:-1] + "."):
                self.refused(("NoDeed",), deed_of_text, bent)

    def test_numbers_beyond(self):
        for text in ("put / 61 a", "put / 00 a", "put / 1000 a", "put / -1 a", "put / 0 a(", "put / 0 A", "put / 0 abcdefghi", "out /60",
                     "move /1 /2 61", "move /1 /2", "wrap / 0 61 ab", "wrap / 61 0 ab", "wrap / 0 2 abcdefghi", "wrap / 0 2",
                     "name / ", "name /", "name", "", " ", "fell /1", "out /" + "1" * 9999, "put / " + "1" * 9999 + " a",
                     "put / 0 a(" + "b," * 60 + "b)", "swap /1", "unwrap /0" + "/0" * 11, "OUT /1", "out 1", "out (1,)"):
            self.refused(("NoDeed",), deed_of_text, text)


if __name__ == "__main__":
    unittest.main()
