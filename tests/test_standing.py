"""Questions that stand over a make [40]."""

import unittest

from tests.asked import ANY, chain, pattern
from tests.hearers import Notes
from tests.kinds import MAKES
from tests.model import fitting, judged
from tests.refusals import RefusalChecks, refusal_of, told_of
from tests.samples import ODDITIES, SAMPLES, SMALL, deed_row, fan, leaf, very_many
from treelore import errors
from treelore.answers import answers
from treelore.keeping import Keeper
from treelore.makes import Hearer, Make
from treelore.standing import QUESTIONS, STORY, Standing

PATTERNS = [
    pattern(mark="m"),
    pattern(("kids", 0, 0), mark="m"),
    pattern(ANY, ("kid", pattern(mark="n")), mark="m"),
    pattern(ANY, ("next", pattern(mark="n")), mark="m"),
    pattern(("tag", "n")),
    pattern(("kids", 2, 60), ("over", pattern(("at", 0)))),
    pattern(("lacks", "later", pattern()), ("above", pattern(mark="u"))),
    pattern(("at", 1), ("later", pattern()), mark="m"),
]


class Shout(Exception):
    """What a hearer of these tests raises."""


def shout():
    raise Shout()


def changes_by(tree, deed, asked):
    """What comes of a deed, by places led as knobs are: asked has patterns by their numbers."""
    behind, where, _ = judged(tree, deed)
    rows = []
    for number in sorted(asked):
        ahead, then = answers(tree, asked[number]), answers(behind, asked[number])
        led = {answer: tuple(where[path] for path in answer) for answer in ahead}
        went = tuple(answer for answer in ahead if led[answer] not in then)
        came = tuple(answer for answer in then if answer not in led.values())
        if went or came:
            rows.append((number, went, came))
    return tuple(rows), behind


class StandingTest(RefusalChecks, unittest.TestCase):
    def stand(self, kind=Make, tree=SMALL, patterns=PATTERNS):
        make = kind(tree)
        standing = Standing(make)
        for told in patterns:
            standing.ask(told)
        return make, standing

    def check_answers(self, standing, tree, asked):
        self.assertEqual(standing.questions(), tuple(sorted(asked)))
        for number, told in asked.items():
            self.assertEqual(standing.answers_of(number), answers(tree, told))
            self.assertEqual(standing.pattern_of(number), told)

    def test_questions(self):
        make = Make(SMALL)
        standing = Standing(make)
        self.assertIsInstance(standing, Hearer)
        self.assertIs(standing.make(), make)
        self.assertEqual((standing.questions(), len(standing), str(standing), standing.story()), ((), 0, "", []))
        self.assertEqual([standing.ask(told) for told in PATTERNS[:3]], [0, 1, 2])
        self.assertEqual((standing.questions(), len(standing)), ((0, 1, 2), 3))
        self.check_answers(standing, SMALL, dict(enumerate(PATTERNS[:3])))
        self.assertIsNone(standing.drop(1))
        self.assertEqual((standing.questions(), len(standing)), ((0, 2), 2))
        self.assertEqual(standing.ask(PATTERNS[0]), 3)
        standing.drop(3)
        self.assertEqual(standing.ask(PATTERNS[4]), 4)
        self.assertEqual(standing.questions(), (0, 2, 4))

    def test_behind_every_deed(self):
        for tree in SAMPLES[1:]:
            for deed in fitting(tree):
                make, standing = self.stand(tree=tree)
                told, behind = changes_by(tree, deed, dict(enumerate(PATTERNS)))
                self.assertEqual(standing.do(deed), told, (tree, deed))
                self.assertEqual(make.value(), behind)
                self.assertEqual(standing.story(), [(deed, told)])

    def test_over_each_kind_of_make(self):
        for kind in MAKES:
            for seed, tree in enumerate(SAMPLES):
                make, standing = self.stand(kind, tree)
                asked = dict(enumerate(PATTERNS))
                story = []
                for turn, deed in enumerate(deed_row(tree, 9, seed + 150)):
                    told, tree = changes_by(tree, deed, asked)
                    story.append((deed, told))
                    if turn % 2:
                        self.assertEqual(standing.do(deed), told)
                    else:
                        make.do(deed)
                    self.check_answers(standing, tree, asked)
                self.assertEqual(standing.story(), story)

    def test_a_do_all(self):
        for kind in MAKES:
            for seed, tree in enumerate(SAMPLES[2:]):
                make, standing = self.stand(kind, tree)
                deeds, rows = deed_row(tree, 25, seed + 170), []
                for deed in deeds:
                    told, tree = changes_by(tree, deed, dict(enumerate(PATTERNS)))
                    rows.append(told)
                self.assertEqual(standing.do_all(deeds), tuple(rows))
                self.assertEqual(make.value(), tree)
                self.assertEqual(standing.story(), list(zip(deeds, rows))[-20:])
                self.assertEqual(standing.do_all([]), ())

    def test_told_ones(self):
        make, standing = self.stand(patterns=[pattern(("kids", 0, 0), mark="m"), pattern(("tag", "x")), pattern(("tag", "a"))])
        self.assertEqual(standing.do(("put", (1,), 0, leaf("x"))), ((0, (((1,),),), (((1, 0),),)), (1, (), ((),))))
        self.assertEqual(standing.do(("name", (), "b")), ((2, ((),), ()),))
        self.assertEqual(standing.do(("swap", (0, 0), (2, 1))), ())
        # What is only led elsewhere neither goes nor comes.
        self.assertEqual(standing.do(("move", (2,), (), 0)), ())
        self.assertEqual(standing.do(("out", (0, 0))), ((0, (((0, 0),),), ()),))
        self.assertEqual(standing.do(("unwrap", (2,))), ())
        self.assertEqual(standing.do(("out", (2,))), ((0, (((2,),),), ()), (1, ((),), ())))
        self.assertEqual(standing.answers_of(0), (((0, 0),), ((0, 1),), ((1, 0),), ((1, 1, 0),)))

    def test_went_as_told_ahead_came_as_told_behind(self):
        two = pattern(ANY, ("next", pattern(mark="n")), mark="m")
        make, standing = self.stand(tree=("a", (leaf("b"), leaf("c"), leaf("d"))), patterns=[two])
        told = standing.do(("move", (0,), (), 1))
        self.assertEqual(told, ((0, (((0,), (1,)), ((1,), (2,))), (((0,), (1,)), ((1,), (2,)))),))
        told = standing.do(("out", (0,)))
        self.assertEqual(told, ((0, (((0,), (1,)),), ()),))

    def test_deeds_of_others_and_backs(self):
        for kind in MAKES:
            make, standing = self.stand(kind)
            keeper = Keeper(make)
            asked = dict(enumerate(PATTERNS))
            out = ("out", (0,))
            first, behind = changes_by(SMALL, out, asked)
            make.do(out)
            self.check_answers(standing, behind, asked)
            keeper.back()
            put = ("put", (), 0, SMALL[1][0])
            second, tree = changes_by(behind, put, asked)
            self.assertEqual(standing.story(), [(out, first), (put, second)])
            self.check_answers(standing, SMALL, asked)
            make.do_all([out, ("name", (), "n")])
            third, tree = changes_by(behind, ("name", (), "n"), asked)
            self.assertEqual(standing.story()[2:], [(out, first), (("name", (), "n"), third)])
            self.check_answers(standing, tree, asked)

    def test_two_standings_over_one_make(self):
        make, one = self.stand(patterns=PATTERNS[:1])
        other = Standing(make)
        other.ask(PATTERNS[4])
        self.assertEqual(one.do(("put", (), 0, leaf("n"))), ((0, (), (((0,),),)),))
        self.assertEqual(other.do(("out", (0,))), ((0, ((),), ()),))
        self.assertEqual(other.story(), [(("put", (), 0, leaf("n")), ((0, (), ((),)),)), (("out", (0,)), ((0, ((),), ()),))])
        self.assertEqual([deed for deed, _ in one.story()], [deed for deed, _ in other.story()])

    def test_the_story_has_the_last_of_them(self):
        self.assertEqual((QUESTIONS, STORY), (8, 20))
        make, standing = self.stand(patterns=[])
        rows = []
        for number in range(23):
            deed = ("name", (), "abcdefghijklmnopqrstuvwxyz"[number])
            self.assertEqual(standing.do(deed), ())
            rows.append((deed, ()))
            self.assertEqual(standing.story(), rows[-20:])
        told = standing.story()
        told.clear()
        self.assertEqual(standing.story(), rows[-20:])

    def test_a_question_asked_later_and_one_dropped(self):
        make, standing = self.stand(patterns=PATTERNS[:2])
        make.do(("out", (2,)))
        number = standing.ask(PATTERNS[2])
        standing.drop(0)
        deed = ("out", (0,))
        told, behind = changes_by(make.value(), deed, {1: PATTERNS[1], number: PATTERNS[2]})
        self.assertEqual(standing.do(deed), told)
        self.check_answers(standing, behind, {1: PATTERNS[1], number: PATTERNS[2]})

    def test_no_pattern_and_too_many(self):
        make, standing = self.stand()
        for thing in ODDITIES + [ANY, chain(9), list(pattern())]:
            self.refused(("NoPattern", "pattern"), standing.ask, thing)
        self.refused(("TooMany", 9), standing.ask, pattern())
        self.assertIsInstance(refusal_of(standing.ask, pattern()), errors.NoFit)
        self.assertEqual(len(standing), 8)
        standing.drop(5)
        self.assertEqual(standing.ask(pattern()), 8)
        self.refused(("TooMany", 9), standing.ask, pattern())

    def test_no_question(self):
        make, standing = self.stand(patterns=PATTERNS[:3])
        standing.drop(1)
        for thing in ODDITIES + [1, 3, 8, -1, 10 ** 59, True, False, "0", "", (0,), [0], {0: 0}, None, very_many()]:
            for call in (standing.drop, standing.answers_of, standing.pattern_of):
                self.refused(("NoQuestion", thing), call, thing)
        self.assertIsInstance(refusal_of(standing.drop, 1), errors.NoFit)
        self.assertEqual(standing.questions(), (0, 2))

    def test_refused_deeds_change_nothing(self):
        for kind in MAKES:
            make, standing = self.stand(kind)
            standing.do(("out", (1,)))
            tree, story = make.value(), standing.story()
            told = [standing.answers_of(number) for number in standing.questions()]
            for thing in ODDITIES:
                self.refused(("NoDeed",), standing.do, thing)
                if not isinstance(thing, list):
                    self.refused(("NoDeed",), standing.do_all, thing)
            self.refused(("Root", ()), standing.do, ("out", ()))
            self.refused(("NoPlace", (9,)), standing.do, ("out", (9,)))
            self.refused(("TooMany", 69), standing.do, ("put", (), 0, fan(60)))
            self.refused(("Stopped", 1), standing.do_all, [("out", (0,)), ("out", ())])
            self.refused(("Stopped", 0), standing.do_all, [None])
            self.refused(("Stopped", 2), make.do_all, [("out", (0,)), ("name", (), "z"), ("out", (7,))])
            self.assertEqual((make.value(), standing.story()), (tree, story))
            self.assertEqual([standing.answers_of(number) for number in standing.questions()], told)

    def test_a_hearer_that_raises_as_it_settles(self):
        for kind in MAKES:
            for first in (True, False):
                make = kind(SMALL)
                hearer = Notes([], on_settle=shout)
                if first:
                    make.hear(hearer)
                standing = Standing(make)
                standing.ask(PATTERNS[1])
                if not first:
                    make.hear(hearer)
                one, two = ("out", (0,)), ("name", (), "z")
                with self.assertRaises(Shout):
                    standing.do(one)
                self.assertEqual([deed for deed, _ in standing.story()], [one])
                with self.assertRaises(Shout):
                    standing.do_all([two, one])
                self.assertEqual([deed for deed, _ in standing.story()], [one, two, one])
                self.assertEqual(standing.story()[0], (one, ((0, (((0, 0),), ((0, 1, 0),)), ()),)))
                self.assertEqual(make.value(), ("z", SMALL[1][2:]))
                self.assertEqual(standing.answers_of(0), (((0, 0),), ((0, 1),), ((0, 2),)))

    def test_busy_meanwhile(self):
        for kind in MAKES:
            make, standing = self.stand(kind, patterns=PATTERNS[:1])
            told = []

            def try_deeds():
                for call, thing in ((standing.do, ("out", (0,))), (standing.do, None), (standing.do_all, []),
                                    (standing.do_all, None)):
                    told.append(told_of(refusal_of(call, thing)))

            make.hear(Notes([], on_heard=try_deeds, on_settle=try_deeds))
            self.assertEqual(standing.do(("out", (1,))), ((0, (((1,),),), ()),))
            self.assertEqual(told, [("Busy",)] * 8)
            self.assertEqual(standing.do_all([("put", (), 0, leaf("x")), ("name", (), "z")]), (((0, (), (((0,),),)),), ()))
            self.assertEqual(told, [("Busy",)] * 20)
            self.assertEqual(len(standing.story()), 3)

    def test_asked_while_the_make_settles(self):
        make, standing = self.stand(patterns=[])
        seen = []
        make.hear(Notes([], on_settle=lambda: seen.append(standing.answers_of(standing.ask(PATTERNS[4])))))
        self.assertEqual(standing.do(("name", (), "n")), ())
        self.assertEqual(standing.do(("name", (), "a")), ((0, ((),), ()),))
        self.assertEqual(seen, [((),), ()])

    def test_asked_by_one_that_hears_ahead_of_it(self):
        for kind in MAKES:
            make, seen = kind(SMALL), []
            kids = PATTERNS[2]

            def use():
                seen.append((standing.answers_of(0) == answers(make.value(), kids), len(standing.story())))
                if len(seen) == 1:
                    # The deed was done ahead of this question: so nothing came of it there.
                    self.assertEqual(standing.ask(kids), 1)
                if len(seen) == 2:
                    standing.drop(0)
                    standing.ask(kids)

            notes = Notes([], on_heard=use)
            make.hear(notes)
            standing = Standing(make)
            standing.ask(kids)
            one = standing.do(("out", (0, 0)))
            other = standing.do(("out", (1,)))
            self.assertEqual([row[0] for row in one], [0])
            # Question 0 stood as the deed was done, question 2 didn't.
            self.assertEqual([row[0] for row in other], [0, 1])
            self.assertEqual((seen, [told for deed, told in standing.story()]), ([(True, 1), (True, 2)], [one, other]))
            self.assertEqual(standing.questions(), (1, 2))

    def test_one_that_came_more_than_once(self):
        for kind in MAKES:
            for seed, tree in enumerate(SAMPLES):
                for more in (1, 2):
                    make, standing = self.stand(kind, tree)
                    for _ in range(more):
                        make.hear(standing)
                    deeds, rows = deed_row(tree, 6, seed + 190), []
                    for deed in deeds:
                        told, tree_behind = changes_by(tree, deed, dict(enumerate(PATTERNS)))
                        rows.append(told)
                        tree = tree_behind
                    # do and do_all tell one for each deed, however often it is heard.
                    self.assertEqual(standing.do(deeds[0]), rows[0])
                    self.assertEqual(standing.do_all(deeds[1:4]), tuple(rows[1:4]))
                    make.do_all(deeds[4:])
                    story = []
                    for row in zip(deeds, rows):
                        story.extend([row] * (more + 1))
                    self.assertEqual(standing.story(), story[-20:])
                    self.check_answers(standing, tree, dict(enumerate(PATTERNS)))

    def test_one_that_came_twice_has_the_last_of_what_it_heard(self):
        make, standing = self.stand(patterns=[])
        make.hear(standing)
        deeds = [("name", (), letter) for letter in "abcdefghijkl"]
        standing.do_all(deeds)
        self.assertEqual(standing.story(), [(deed, ()) for deed in deeds[2:] for _ in range(2)])

    def test_one_that_came_twice_asked_ahead_of_its_hearing(self):
        for kind in MAKES:
            make, seen = kind(SMALL), []
            make.hear(Notes([], on_heard=lambda: seen.append(len(standing.story()))))
            standing = Standing(make)
            make.hear(Notes([], on_heard=lambda: seen.append(len(standing.story()))))
            make.hear(standing)
            standing.ask(PATTERNS[1])
            deeds, rows = [("out", (0,)), ("out", (1,))], []
            rows.append(standing.do(deeds[0]))
            rows.append(standing.do(deeds[1]))
            self.assertEqual([len(row) for row in rows], [1, 1])
            self.assertEqual(seen, [1, 1, 3, 3])
            self.assertEqual(standing.story(), [row for row in zip(deeds, rows) for _ in range(2)])

    def test_made_while_a_do_all_goes_on(self):
        for kind in MAKES:
            make, made = kind(SMALL), []

            def use():
                if not made:
                    made.append(Standing(make))
                    made[0].ask(PATTERNS[2])
                self.assertEqual(made[0].answers_of(0), answers(make.value(), PATTERNS[2]))

            make.hear(Notes([], on_heard=use))
            make.do_all([("out", (0,)), ("name", (), "z"), ("out", (0,))])
            self.assertEqual(made[0].story(), [])
            tree = make.value()
            changes, behind = changes_by(tree, ("out", (0, 1)), {0: PATTERNS[2]})
            self.assertEqual(made[0].do(("out", (0, 1))), changes)
            self.assertEqual(made[0].story(), [(("out", (0, 1)), changes)])

    def test_text(self):
        make, standing = self.stand(patterns=[PATTERNS[0], PATTERNS[4], pattern(("tag", "e"), mark="m"), PATTERNS[1]])
        self.assertEqual(str(standing), "0: 10 answers\n1: 0 answers\n2: 1 answers\n3: 6 answers")
        standing.drop(1)
        make.do(("out", (0,)))
        self.assertEqual(str(standing), "0: 6 answers\n2: 0 answers\n3: 4 answers")


if __name__ == "__main__":
    unittest.main()
