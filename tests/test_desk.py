"""Lines and their answers [71], runs, their log, tell and Busy [72]."""

import unittest

from tests.model import every_deed
from tests.refusals import RefusalChecks, refusal_of
from tests.samples import ODDITIES, SAMPLES, SMALL, deed_row, fan, leaf, very_many
from treelore import errors
from treelore.desk import Desk
from treelore.grove import KINDS, Grove
from treelore.sending import text_of
from treelore.trees import places_of
from treelore.walks import ORDERS, in_order
from treelore.words import deed_text, path_text

TEXT = text_of(SMALL)


class Shout(Exception):
    """What the called one of these tests raises."""


def desk_of(kind="plain"):
    """A desk over a grove that has SMALL by the name t."""
    grove = Grove()
    grove.begin("t", SMALL, kind)
    return Desk(grove), grove


class SayTest(unittest.TestCase):
    def says(self, desk, rows):
        for line, answer in rows:
            self.assertEqual((line, desk.say(line)), (line, answer))

    def test_a_day_at_the_desk(self):
        for kind in KINDS:
            desk = Desk(Grove())
            self.says(desk, [
                ("names", "-"), (f"begin b {kind} a(b,c(d))", "done"), ("begin a flat x", "done"), ("names", "a b"),
                ("kind b", kind), ("tree b", "a(b,c(d))"), ("do b wrap / 0 2 ab", "done"), ("tree b", "a(ab(b,c(d)))"),
                ("keep b /0/1/0", "0"), ("keep b /", "1"), ("keep b /0/0", "2"), ("where b 0", "/0/1/0"), ("where b 1", "/"),
                ("size b /", "5"), ("size b /0/1", "2"), ("kth b 0", "/"), ("kth b 4", "/0/1/0"),
                ("all b name / k ; out /0/1 ; put / 0 n(o)", "done"), ("tree b", "k(n(o),ab(b))"), ("where b 0", "taken 2"),
                ("where b 2", "/1/0"), ("back b", "done"), ("back b", "done"), ("where b 0", "/0/1/0"), ("tree b", "k(ab(b,c(d)))"),
                ("list b ahead", "/ /0 /0/0 /0/1 /0/1/0"), ("list b leaves", "/0/0 /0/1/0"), ("list a behind", "/"),
                ("drop b", "done"), ("names", "a"), ("drop a", "done"), ("names", "-"),
            ])

    def test_deeds_by_their_texts(self):
        for seed, tree in enumerate(SAMPLES):
            desk, grove = desk_of()
            grove.begin("u", tree, "tied")
            for deed in deed_row(tree, 8, seed):
                self.assertEqual(desk.say("do u " + deed_text(deed)), "done")
                self.assertEqual(grove.log()[-1], ("do", "u", deed))
            grove.begin("k", tree, "flat")
            deeds = deed_row(tree, 5, seed)
            self.assertEqual(desk.say("all k " + " ; ".join(map(deed_text, deeds))), "done")
            self.assertEqual(grove.log()[-1], ("all", "k", tuple(deeds)))

    def test_each_deed_as_the_grove_refuses_it(self):
        for deed in every_deed(SMALL)[::3] + [("put", (), 0, fan(60)), ("out", ()), ("put", (0, 1, 0), 0, leaf())]:
            desk, grove = desk_of()
            other = Grove()
            other.begin("t", SMALL, "plain")
            refusal = refusal_of(other.do, "t", deed)
            wanted = "done" if refusal is None else f"no {refusal.__class__.__name__}"
            self.assertEqual(desk.say("do t " + deed_text(deed)), wanted)
            self.assertTrue(grove == other)
            wanted = "done" if refusal is None else "no Stopped 1"
            desk, grove = desk_of()
            self.assertEqual(desk.say("all t name / a ; " + deed_text(deed)), wanted)

    def test_lists_and_numbers(self):
        desk, grove = desk_of("lasting")
        for how in ORDERS:
            self.assertEqual(desk.say(f"list t {how}"), " ".join(path_text(path) for path in in_order(SMALL, how)))
        for number, path in enumerate(places_of(SMALL)):
            self.assertEqual(desk.say(f"kth t {number}"), path_text(path))
            self.assertEqual(desk.say(f"size t {path_text(path)}"), str(grove.size_at("t", path)))
            self.assertEqual(desk.say(f"keep t {path_text(path)}"), str(number))

    def test_what_the_grove_refuses(self):
        desk, grove = desk_of()
        log = grove.log()
        for line in ("drop {}", "do {} out /0", "all {} out /0", "back {}", "tree {}", "kind {}", "size {} /", "kth {} 0", "keep {} /",
                     "where {} 0", "list {} ahead", "list {} none"):
            for name, answer in (("q", "no NoName"), ("Q", "no NoTag"), ("abcdefghi", "no NoTag"), ("1", "no NoTag"), ("t\n", "no NoTag")):
                self.assertEqual(desk.say(line.format(name)), answer)
        self.says(desk, [
            ("begin T plain a", "no NoTag"), ("begin t plain a", "no Planted"), ("begin t none a", "no Planted"),
            ("begin u none a", "no NoKind"), ("begin u Plain a", "no NoKind"), ("back t", "no NothingBack"),
            ("size t /9", "no NoPlace"), ("keep t /9", "no NoPlace"), ("kth t 10", "no NoKth"), ("where t 0", "no NoTicket"),
            ("kth t " + "9" * 60, "no NoKth"), ("where t " + "9" * 60, "no NoTicket"), ("list t none", "no NoOrder"),
            ("list t Ahead", "no NoOrder"), ("do t out /", "no Root"), ("do t out /9", "no NoPlace"), ("do t swap /0 /0/0", "no Within"),
            ("do t put / 0 " + text_of(fan(60)), "no TooMany"), ("all t out /0 ; out / ; out /9", "no Stopped 1"),
            ("all t out /0 ; out /0 ; out /0 ; out /0", "no Stopped 3"),
        ])
        for name in "abcdefg":
            self.assertEqual(desk.say(f"begin {name} plain x"), "done")
        self.assertEqual(desk.say("begin h plain x"), "no TooMany")
        self.assertEqual(desk.say("begin h none x"), "no NoKind")
        for name in "abcdefg":
            desk.say(f"drop {name}")
        self.assertEqual([entry for entry in grove.log() if entry[1] == "t"], log)
        deep = "a(" * 11 + "a" + ")" * 11
        self.says(desk, [(f"begin d plain {deep}", "done"), ("do d put " + "/0" * 11 + " 0 a", "no TooDeep"), ("tree d", deep)])

    def test_what_is_none_goes_ahead_of_the_grove(self):
        desk, grove = desk_of()
        for name in ("t", "q", "Q"):
            for path in ("0", "//", "/01", "/60", "x", "/0/", "/-1", "/0" * 12, "/1\n"):
                self.says(desk, [(f"size {name} {path}", "no NoPath"), (f"keep {name} {path}", "no NoPath")])
            for number in ("01", "-1", "x", "+1", "1.0", "00", "9" * 61, "9" * 5000, "1_0", "/", "1\n"):
                self.says(desk, [(f"kth {name} {number}", "no NoCount"), (f"where {name} {number}", "no NoCount")])
            for tree in ("a(", "a()", "A", "abcdefghi", "a,b", "a(b))", "(a)", text_of(fan(60))[:-1] + ",b)", "a\n"):
                self.says(desk, [(f"begin {name} plain {tree}", "no NoTree"), (f"begin {name} none {tree}", "no NoTree")])
            for deed in ("out", "out 0", "fell /0", "out /0 /1", "name /0 A", "put / 0 a(", "wrap / 0 61 x", ";", "; ;", "out /0 ;", "; out /0",
                         "out /0; out /0", "out /00"):
                self.says(desk, [(f"do {name} {deed}", "no NoDeed"), (f"all {name} {deed}", "no NoDeed")])
            self.says(desk, [(f"do {name} out /0 ; out /0", "no NoDeed"), (f"all {name} out /0 ; fell /0 ; out /", "no NoDeed"),
                             (f"all {name} out / ; out /9 ; x", "no NoDeed"), (f"all {name} out /0 ; ; out /0", "no NoDeed")])
        self.assertEqual(len(grove.log()), 1)

    def test_no_line(self):
        desk, grove = desk_of()
        right = ["begin u plain a", "drop t", "do t out /0", "all t out /0 ; out /0", "back t", "tree t", "names", "kind t", "size t /",
                 "kth t 0", "keep t /", "where t 0", "list t ahead"]
        for line in right:
            words = line.split(" ")
            bents = [" " + line, line + " ", line.replace(" ", "  ", 1) if " " in line else line + "  ", words[0].upper(), line.replace(" ", "\t", 1)
                     if " " in line else line + "\t", line[1:], words[0] + "s" + line[len(words[0]):] if words[0] != "name" else "?"]
            if words[0] not in ("do", "all"):
                bents += [line + " x"] + [" ".join(words[:many]) for many in range(1, len(words))]
            else:
                bents += [" ".join(words[:many]) for many in (1, 2)]
            for bent in bents:
                self.assertEqual((bent, desk.say(bent)), (bent, "no line"))
        for thing in ODDITIES + [None, 0, [], ["names"], ("names",), {}, {"names": 1}, True, "", " ", "\n", "hello", "Names", "names names",
                                 "names\n", "\nnames", "say names", very_many()]:
            self.assertEqual(desk.say(thing), "no line")
        self.assertEqual(len(grove.log()), 1)

    def test_several_things_wrong_at_once(self):
        desk, grove = desk_of()
        self.says(desk, [
            ("begin T none a(", "no NoTree"), ("begin T none a", "no NoTag"), ("begin t none a", "no Planted"),
            ("size Q //", "no NoPath"), ("size q /9", "no NoName"), ("do q out /", "no NoName"), ("do Q out", "no NoDeed"),
            ("list Q none", "no NoTag"), ("list q none", "no NoName"), ("where q 99", "no NoName"), ("all q out / ; out /", "no NoName"),
            ("begin t none", "no line"), ("size Q // x", "no line"), ("do Q", "no line"), ("all", "no line"), ("kth q x", "no NoCount"),
        ])


class RunTest(RefusalChecks, unittest.TestCase):
    def test_in_order(self):
        desk, grove = desk_of()
        lines = ["tree t", "do t out /0", None, "do t out /", "tree t", ["x"], "names"]
        answers = [TEXT, "done", "no line", "no Root", "a(f,g(h,i,j))", "no line", "t"]
        self.assertEqual(desk.run(lines), answers)
        self.assertEqual(desk.log(), [("begun", 0), ("ended", 0, 7)])
        self.assertEqual(desk.run([]), [])
        self.assertEqual(desk.log(), [("begun", 0), ("ended", 0, 7), ("begun", 1), ("ended", 1, 0)])
        self.assertIs(desk.is_busy(), False)

    def test_tell(self):
        desk, grove = desk_of()
        told = []
        self.assertEqual(desk.run(["names", "back t", "?"], tell=told.append), ["t", "no NothingBack", "no line"])
        self.assertEqual(told, ["t", "no NothingBack", "no line"])
        self.assertEqual(desk.run(["names"], tell=None), ["t"])

    def test_one_that_raises(self):
        desk, grove = desk_of()
        told = []

        def tell(answer):
            told.append((answer, desk.is_busy(), desk.log()))
            if len(told) == 2:
                raise Shout()

        with self.assertRaises(Shout):
            desk.run(["names", "do t out /0", "do t out /0"], tell=tell)
        self.assertEqual(told, [("t", True, [("begun", 0)]), ("done", True, [("begun", 0)])])
        self.assertEqual(desk.log(), [("begun", 0), ("ended", 0, 2)])
        self.assertIs(desk.is_busy(), False)
        self.assertEqual(grove.told("t"), ("a", SMALL[1][1:]))
        self.assertEqual(desk.run(["names"]), ["t"])
        self.assertEqual(desk.log()[2:], [("begun", 1), ("ended", 1, 1)])

    def test_run_within_run(self):
        desk, grove = desk_of()
        other = Desk(grove)
        told = []

        def tell(answer):
            self.refused(("Busy",), desk.run, ["drop t"])
            self.refused(("Busy",), desk.run, None)
            told.append((desk.say("names"), other.run(["names"]), desk.is_busy(), other.is_busy()))

        self.assertEqual(desk.run(["names", "do t name / z"], tell=tell), ["t", "done"])
        self.assertEqual(told, [("t", ["t"], True, False)] * 2)
        self.assertEqual(desk.log(), [("begun", 0), ("ended", 0, 2)])
        self.assertEqual(len(other.log()), 4)
        # One that doesn't catch it.
        self.refused(("Busy",), lambda: desk.run(["names", "drop t"], tell=lambda answer: desk.run([])))
        self.assertEqual((desk.log()[2:], grove.names()), ([("begun", 1), ("ended", 1, 1)], ("t",)))
        self.assertIsInstance(refusal_of(lambda: desk.run(["names"], tell=lambda answer: desk.run([]))), errors.Cut)

    def test_lines_that_are_added_meanwhile(self):
        desk, grove = desk_of()
        lines = ["names", "tree t"]
        answers = desk.run(lines, tell=lambda answer: lines.append("drop t"))
        self.assertEqual((answers, grove.names()), (["t", TEXT], ("t",)))
        self.assertEqual(lines, ["names", "tree t", "drop t", "drop t"])
        self.assertEqual(desk.run(lines, tell=lambda answer: lines.clear()), ["t", TEXT, "done", "no NoName"])

    def test_no_lines(self):
        desk, grove = desk_of()
        for thing in [thing for thing in ODDITIES if not isinstance(thing, list)] + ["names", ("names",)]:
            self.refused(("NoLines",), desk.run, thing)
        self.assertEqual(desk.log(), [])
        self.assertEqual(desk.run(["names"]), ["t"])
        self.assertEqual(desk.log(), [("begun", 0), ("ended", 0, 1)])
        self.assertIsInstance(refusal_of(desk.run, None), errors.NoThing)

    def test_the_last_hundred(self):
        desk, grove = desk_of()
        for number in range(70):
            desk.run(["names"] * (number % 3))
        wanted = [entry for number in range(70) for entry in (("begun", number), ("ended", number, number % 3))]
        self.assertEqual(desk.log(), wanted[-100:])
        seen = []
        desk.run(["names"], tell=lambda answer: seen.append(desk.log()))
        self.assertEqual(seen, [wanted[-99:] + [("begun", 70)]])
        desk.log().clear()
        self.assertEqual(len(desk.log()), 100)

    def test_answers_are_new_each_time(self):
        desk, grove = desk_of()
        desk.run(["names"]).clear()
        self.assertEqual(desk.run(["names"]), ["t"])


if __name__ == "__main__":
    unittest.main()
