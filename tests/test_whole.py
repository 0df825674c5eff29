"""Over the whole program: [1] to [4] and [11]: all makes answer alike, whatever stands over them and whatever is done."""

import copy
import unittest

from tests.grown import Mixer, mixed_tree
from tests.hearers import Notes
from tests.kinds import MAKES
from tests.model import every_deed, find_knob, do_on_knobs, knob_of, knobs_of, tree_of, why_not
from tests.refusals import refusal_of, told_of
from tests.samples import SAMPLES, SMALL, fan, leaf, line
from treelore.answers import answers
from treelore.costs import cost_between
from treelore.counts import Counts, count_paper
from treelore.deeds import done
from treelore.differ import EVEN, cost_of_deeds, difference
from treelore.drawing import drawn, is_drawing, read_drawing
from treelore.flat import flat_of, tree_of_flat
from treelore.grove import KINDS, Grove
from treelore.joining import three_ways
from treelore.keeping import Keeper
from treelore.leading import all_done
from treelore.makes import Make
from treelore.matching import top_matching
from treelore.papers import columns_paper, right_columns
from treelore.regrown import grown, read_grove
from treelore.sending import sent_numbers, text_of, tree_in, tree_of_numbers
from treelore.sides import led_by_side, side_of
from treelore.standing import Standing
from treelore.trees import depth_of, part_of, places_of, size_of
from treelore.walks import ORDERS, Walker, right_walk
from treelore.words import deed_of_text, deed_text

PATTERNS = [
    ("k", ("any",), (("kid", ("", ("any",), ())),)),
    ("one", ("kids", 0, 1), (("later", ("other", ("not", ("tag", "a")), ())),)),
    ("", ("at", 0), (("over", ("m", ("starts", "a"), ())),)),
]
WALKS = [(how, late) for how in ORDERS for late in (True, False)]


class Company:
    """A make with all that may stand over it."""

    def __init__(self, kind, tree):
        self.make = kind(tree)
        self.rows = []
        self.make.hear(Notes(self.rows, "first"))
        self.keepers = [Keeper(self.make), Keeper(self.make)]
        self.walker = Walker(self.make)
        self.counts = Counts(self.make)
        self.standing = Standing(self.make)
        self.make.hear(Notes(self.rows, "last", on_heard=lambda: self.rows.append(self.told())))
        self.watched = []
        self.keepers[0].watch(lambda deed, tickets: self.watched.append((deed, tickets, self.make.value())))
        for pattern in PATTERNS:
            self.standing.ask(pattern)
        for how, late in WALKS:
            self.walker.begin(how, late=late)
        for path in places_of(tree):
            self.keepers[0].keep(path)

    def told(self):
        """All that is told of the tree as it is."""
        make, counts = self.make, self.counts
        places = places_of(make.value())
        return (
            make.value(), make.size(), make.depth(), len(make), str(make),
            [(make.part(path), make.tag(path), make.many(path), make.has(path), make.has(path + (7,))) for path in places
             if len(path) < 11],
            [(keeper.tickets(), keeper.takes(), keeper.deeds_heard(), keeper.can_back(), len(keeper)) for keeper in self.keepers],
            [(self.walker.shown(number), self.walker.left(number), self.walker.story(number)) for number in range(len(WALKS))],
            str(self.walker), [counts.size_at(path) for path in places], [counts.height_at(path) for path in places],
            [counts.number_of(path) for path in places], counts.tags(), counts.levels(), counts.leaves(), counts.paper(),
            [self.standing.answers_of(number) for number in self.standing.questions()], str(self.standing), self.standing.story(),
            list(self.watched),
        )

    def use(self, step):
        """One step; what came of it, a refusal too."""
        word, thing = step
        if word == "onward":
            return self.walker.onward(thing)
        if word == "keep":
            call = self.keepers[thing[0]].keep
            return told_of(refusal_of(call, thing[1]))
        if word == "let":
            return told_of(refusal_of(self.keepers[0].let_go, thing))
        if word == "back":
            return told_of(refusal_of(self.keepers[thing].back))
        if word == "asked":
            return told_of(refusal_of(self.standing.do, thing))
        call = self.make.do_all if word == "all" else self.make.do
        return told_of(refusal_of(call, thing))


def steps_for(tree, mixer, many):
    """Steps of all sorts, by a mixer; the deeds are of the tree as it is then as far as one can tell, fitting or not."""
    steps = []
    root = knob_of(tree)
    for _ in range(many):
        choice = mixer.below(12)
        deed = mixer.one_of(every_deed(tree_of(root)))
        fits = why_not(tree_of(root), deed) is None and len(knobs_of(root)) < 40
        if choice < 4:
            steps.append(("onward", mixer.below(len(WALKS))))
        elif choice == 4:
            steps.append(("keep", (mixer.below(2), mixer.one_of([(), (0,), (1,), (0, 0), (9,), (2, 1)]))))
        elif choice == 5:
            steps.append(("let", mixer.below(20)))
        elif choice == 6:
            steps.append(("back", mixer.below(2)))
            # Where a back leads isn't followed here: deeds behind it may fit or not.
            steps.append(("do", ("name", (), mixer.one_of("abc"))))
        elif choice == 7:
            steps.append(("all", [("name", (), "b"), deed]))
            if fits:
                do_on_knobs(root, deed)
        else:
            steps.append((mixer.one_of(("do", "asked")), deed))
            if fits:
                do_on_knobs(root, deed)
    return steps


class MakesTest(unittest.TestCase):
    def test_all_makes_answer_alike(self):
        for seed in range(8):
            tree = (SAMPLES + [mixed_tree(seed, 9)])[seed % 6]
            steps = steps_for(tree, Mixer(seed), 45)
            companies = [Company(kind, tree) for kind in MAKES]
            refused = done_some = 0
            for step in steps:
                outcomes = [company.use(copy.deepcopy(step)) for company in companies]
                told = [company.told() for company in companies]
                for outcome, row in zip(outcomes, told):
                    self.assertEqual(outcome, outcomes[0])
                    self.assertEqual(row, told[0])
                refused += isinstance(outcomes[0], tuple) and isinstance(outcomes[0][0], str) if outcomes[0] else 0
                done_some += step[0] in ("do", "all", "asked") and outcomes[0] is None
            for company in companies:
                self.assertEqual(company.rows, companies[0].rows)
                self.assertTrue(company.make == companies[0].make)
                for number, (how, late) in enumerate(WALKS):
                    self.assertTrue(right_walk(tree, how, company.walker.story(number), late=late))
            self.assertTrue(refused and done_some)

    def test_told_numbers_and_answers_are_those_of_reckoning_anew(self):
        for seed in range(4):
            tree = mixed_tree(seed + 20, 10)
            company = Company(MAKES[seed % 5], tree)
            for step in steps_for(tree, Mixer(seed + 50), 40):
                company.use(step)
                now = company.make.value()
                self.assertEqual(company.counts.paper(), count_paper(now))
                for number, pattern in enumerate(PATTERNS):
                    self.assertEqual(company.standing.answers_of(number), answers(now, pattern))

    def test_places_are_led_as_knobs_are(self):
        for seed in range(4):
            tree = mixed_tree(seed + 30, 12)
            company = Company(MAKES[seed], tree)
            root = knob_of(tree)
            kept = [knob for path, knob in knobs_of(root)]
            mixer = Mixer(seed)
            for _ in range(25):
                deed = mixer.one_of([deed for deed in every_deed(tree_of(root)) if deed[0] != "put" or mixer.below(9) == 0])
                if why_not(tree_of(root), deed) is None:
                    company.make.do(deed)
                    do_on_knobs(root, deed)
                    where = [find_knob(root, knob) for knob in kept]
                    self.assertEqual([path for ticket, path in company.keepers[0].tickets()], where)

    def test_nothing_handed_in_is_changed(self):
        deeds = [("name", (), "z"), ("out", (0,))]
        kept = copy.deepcopy(deeds)
        for kind in MAKES:
            make = kind(SMALL)
            make.do_all(deeds)
            self.assertEqual(deeds, kept)
            self.assertEqual(all_done(SMALL, deeds), make.value())


class ValuesTest(unittest.TestCase):
    def trees(self):
        trees = SAMPLES + [mixed_tree(seed, 4 + 9 * seed % 57, ("a", "bcd", "efghijkl")) for seed in range(10)]
        return trees + [fan(60), line(12), mixed_tree(77, 60)]

    def test_sent_drawn_flat_and_read_back(self):
        for tree in self.trees():
            for kind in MAKES:
                make = kind(tree)
                self.assertEqual((make.value(), tree_in(str(make))), (tree, tree))
            self.assertEqual(tree_in(text_of(tree)), tree)
            self.assertEqual(tree_of_numbers(sent_numbers(tree)), tree)
            self.assertEqual(tree_of_flat(flat_of(tree)), tree)
            self.assertEqual(read_drawing(drawn(tree)), tree)
            self.assertTrue(is_drawing(tree, drawn(tree)))
            self.assertTrue(right_columns(tree, columns_paper(tree)))
            self.assertEqual(len(drawn(tree)), 2 * depth_of(tree) - 1)

    def test_compared_and_joined(self):
        trees = [tree for tree in self.trees() if size_of(tree) <= 12]
        for one in trees:
            for other in trees:
                deeds = difference(one, other)
                self.assertEqual(all_done(one, list(deeds)), other)
                self.assertEqual(cost_of_deeds(EVEN, deeds), cost_between(one, other, EVEN))
                self.assertEqual([deed_of_text(deed_text(deed)) for deed in deeds], list(deeds))
                for kind in MAKES:
                    make = kind(one)
                    make.do_all(list(deeds))
                    self.assertTrue(make == Make(other))
        for one in self.trees():
            for other in self.trees():
                side = side_of(one, other, top_matching(one, other))
                self.assertEqual(led_by_side(one, side), other)
                self.assertEqual(three_ways(one, one, other), other)

    def test_edits_of_two_are_both_there(self):
        base = ("a", tuple((tag, (leaf("x"),)) for tag in "bcde"))
        ours = done(base, ("name", (0,), "k"))
        theirs = done(base, ("put", (3,), 1, leaf("y")))
        self.assertEqual(three_ways(base, ours, theirs), done(ours, ("put", (3,), 1, leaf("y"))))

    def test_groves_of_all_kinds_tell_alike(self):
        for seed in range(3):
            tree = mixed_tree(seed, 11)
            groves = []
            for kind in KINDS:
                grove, shown = Grove(), []
                grove.begin("t", tree, kind)
                mixer = Mixer(seed)

                def tell(path):
                    shown.append((path, grove.told("t"), part_of(grove.told("t"), path)))
                    deed = mixer.one_of(every_deed(grove.told("t")))
                    if grove.size_at("t", ()) < 30:
                        shown.append(told_of(refusal_of(grove.do, "t", deed)))
                    if mixer.below(5) == 0:
                        shown.append(told_of(refusal_of(grove.back, "t")))

                many = grove.visit("t", "ahead", tell, late=seed != 1)
                plain = [entry for entry in grove.log() if entry[0] != "begin"]
                groves.append((many, shown, plain, grove.told("t")))
                self.assertTrue(grown(grove.log()) == grove)
                self.assertTrue(read_grove(str(grove)) == grove)
            for row in groves:
                self.assertEqual(row, groves[0])


if __name__ == "__main__":
    unittest.main()
