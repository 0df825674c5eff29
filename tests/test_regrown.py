"""Groves read back from a text [69], and grown from a log [68]."""

import unittest

from tests.grown import Mixer
from tests.refusals import RefusalChecks, refusal_of
from tests.samples import ODDITIES, SAMPLES, SMALL, deed_row, fan, leaf, line, very_many
from tests.test_grove import grove_of
from treelore import errors
from treelore.grove import KINDS, Grove
from treelore.regrown import grown, read_grove
from treelore.sending import text_of

ROWS = ["a plain x", "b flat x(y,z)", "c tied k", "cc lasting k(l(m))", "d handles abcdefgh"]


class ReadTest(RefusalChecks, unittest.TestCase):
    def test_read_back(self):
        grove = Grove()
        for number, kind in enumerate(KINDS):
            self.assertTrue(read_grove(str(grove)) == grove)
            grove.begin("abcde"[number], SAMPLES[number], kind)
        for name, tree in (("ab", fan(60)), ("z", line(12)), ("zzzzzzzz", leaf())):
            grove.begin(name, tree, "tied")
        back = read_grove(str(grove))
        self.assertTrue(back == grove and grove == back)
        self.assertEqual((str(back), back.names(), [back.kind(name) for name in back.names()]),
                         (str(grove), grove.names(), [grove.kind(name) for name in grove.names()]))
        back.do("a", ("name", (), "zz"))
        self.assertFalse(back == grove)
        self.assertEqual((len(read_grove("")), str(read_grove(""))), (0, ""))

    def test_no_text(self):
        for thing in [None, True, 0, (), [], {}, ("a plain x",), ROWS, very_many(), grove_of(a=leaf())]:
            self.refused(("NoText",), read_grove, thing)

    def test_each_row_that_is_none(self):
        self.assertEqual(str(read_grove("\n".join(ROWS))), "\n".join(ROWS))
        for at, row in enumerate(ROWS):
            name, kind, tree = row.split(" ")
            bents = ["", " ", name, f"{name} {kind}", f"{kind} {tree}", f"{row} ", f" {row}", f"{name}  {kind} {tree}", f"{row} x",
                     f"{name} {kind} {tree}(", f"{name} {kind} {tree})", f"{name} {kind} ", f"{name} {kind} {tree},",
                     f"{name} {kind}x {tree}", f"{name} Plain {tree}", f"{name}1 {kind} {tree}", f"A {kind} {tree}",
                     f"zzzzzzzzz {kind} {tree}", f"{name}\t{kind} {tree}", f"{name} {kind}\t{tree}", f" {kind} {tree}",
                     f"{name} {kind} X", f"{name} {kind} abcdefghi", f"{name} {kind} {text_of(fan(60))[:-1]},b)"]
            for bent in bents:
                self.refused(("NoRow", at), read_grove, "\n".join(ROWS[:at] + [bent] + ROWS[at + 1:] + ["?"]))
        # A line end behind the last row begins another one.
        self.refused(("NoRow", len(ROWS)), read_grove, "\n".join(ROWS) + "\n")
        self.refused(("NoRow", 0), read_grove, "\n")
        self.assertIsInstance(refusal_of(read_grove, "?"), errors.Cut)

    def test_names_that_do_not_rise(self):
        for at in range(1, len(ROWS)):
            self.refused(("NoRow", at), read_grove, "\n".join(ROWS[:at] + [ROWS[at - 1]] + ROWS[at:]))
            self.refused(("NoRow", at), read_grove, "\n".join(ROWS[:at - 1] + [ROWS[at], ROWS[at - 1]] + ROWS[at + 1:]))

    def test_the_ninth(self):
        rows = [f"{name} plain x" for name in "abcdefgh"]
        self.assertEqual(len(read_grove("\n".join(rows))), 8)
        self.refused(("NoRow", 8), read_grove, "\n".join(rows + ["i plain x"]))
        self.refused(("NoRow", 8), read_grove, "\n".join(rows + ["i plain x", "?"]))


def busy_grove(seed):
    """A grove in which much was done, refused things too."""
    mixer, grove = Mixer(seed), Grove()
    for step in range(60):
        name = "abcdefghij"[mixer.below(10)]
        if name not in grove.names():
            refusal_of(grove.begin, name, SAMPLES[mixer.below(len(SAMPLES))], mixer.one_of(KINDS))
            continue
        deeds = deed_row(grove.told(name), 3, mixer.below(1000)) if grove.size_at(name, ()) < 30 else [("name", (), "q")]
        choice = mixer.below(9)
        if choice == 0:
            grove.drop(name)
        elif choice < 4:
            grove.do(name, deeds[0])
        elif choice == 4:
            grove.do_all(name, deeds)
        elif choice < 7:
            refusal_of(grove.back, name)
        elif choice == 7:
            refusal_of(grove.do_all, name, deeds + [("out", ())])
            grove.visit(name, "ahead", lambda path: path == () and grove.do(name, ("name", (), mixer.one_of("xyz"))))
        else:
            refusal_of(grove.join, mixer.one_of("klm"), name, name, mixer.one_of(grove.names()), mixer.one_of(KINDS))
    return grove


class GrownTest(RefusalChecks, unittest.TestCase):
    def test_equal_again(self):
        words = set()
        for seed in range(40):
            grove = busy_grove(seed)
            log = grove.log()
            words |= {entry[0] for entry in log}
            again = grown(log)
            self.assertTrue(again == grove, seed)
            plain = [entry for entry in log if entry[0] not in ("visit", "left")]
            self.assertEqual(again.log(), plain)
            self.assertTrue(grown(plain) == grove)
            self.assertEqual(log, grove.log())
        self.assertEqual(words, {"begin", "drop", "do", "all", "back", "visit", "left"})
        self.assertTrue(grown([]) == Grove())

    def test_visits_and_lefts_are_passed_over(self):
        for word in ("visit", "left"):
            for thing in (None, -1, [], "?", very_many(made=list), {}, ()):
                self.assertEqual(len(grown([(word, thing, thing), ("begin", "a", "plain", leaf()), (word, "a", thing)])), 1)
            for bent in ((word,), (word, "a"), (word, "a", 1, 2), [word, "a", 1]):
                self.refused(("Stopped", 0), grown, [bent])

    def test_stopped_at_the_first(self):
        log = [("begin", "a", "flat", SMALL), ("do", "a", ("out", (0,))), ("all", "a", (("name", (), "z"), ("out", (0,)))), ("back", "a"),
               ("begin", "b", "tied", leaf()), ("visit", "a", "ahead"), ("left", "a", 4), ("drop", "a")]
        self.assertEqual(str(grown(log)), "b tied a")
        things = [None, True, 0, "", "drop", (), [], {}, ("fell", "a"), ("begin",), ("drop",), ("drop", "q"), ("drop", "A"), ("drop", "a", 1),
                  ("begin", "k", SMALL, "flat"), ("begin", "k", "flat", None), ("begin", "k", None, SMALL), ("begin", "k", "flat", SMALL, 1),
                  ("begin", 5, "flat", SMALL), ("do", "a", ("out", ())), ("do", "q", ("name", (), "z")), ("do", "a", None), ("do", "a"),
                  ("do", "a", ("out", (0,)), 1), ("all", "a", [("name", (), "z")]), ("all", "a", (("name", (), "z"), ("out", (9,)))),
                  ("all", "a", None), ("all", "q", ()), ("back", "q"), ("back", None), ("back", "a", 1), (None, "a"), ([], "a"), ({}, 1),
                  (very_many(), "a"), ["drop", "a"], very_many()]
        for at in range(1, len(log)):
            for thing in things:
                self.refused(("Stopped", at), grown, log[:at] + [thing] + log[at:])
                self.refused(("Stopped", at), grown, log[:at] + [thing, thing])
        self.refused(("Stopped", 1), grown, [log[0], ("back", "a")])
        self.refused(("Stopped", 1), grown, [log[0], log[0]])
        self.refused(("Stopped", 0), grown, [("do", "a", ("name", (), "z"))])
        nine = [("begin", name, "plain", leaf()) for name in "abcdefghi"]
        self.refused(("Stopped", 8), grown, nine)
        for thing in ODDITIES:
            self.refused(("Stopped", 0), grown, [thing])
        self.assertIsInstance(refusal_of(grown, [None]), errors.Cut)


if __name__ == "__main__":
    unittest.main()
