"""The plain make of a tree, beneath which all others stand, and those that hear of a make."""

from treelore.deeds import changed, done
from treelore.errors import Busy
from treelore.leading import all_done
from treelore.sending import text_of
from treelore.trees import check_tree, depth_of, has_place, part_of, places_of, size_of


class Hearer:
    """Hears of the deeds that are done on a make; those beneath it put both methods otherwise."""

    def heard(self, before, deed):
        """A deed was done on the tree before."""

    def settle(self):
        """All of a do or do_all were heard."""


class Make:
    """A tree that is kept, and changed by deeds.

    A make beneath this one keeps its tree in a way of its own: it puts
    plant, value and act otherwise, and leaves all that refuses, tells and
    asks hearers as it stands here. rounds is how many do and do_all began,
    acted how many deeds were done, last the tree ahead of the last of these,
    and that deed.
    """

    def __init__(self, tree):
        check_tree(tree)
        self.hearers = []
        self.busy = False
        self.rounds = 0
        self.acted = 0
        self.last = None
        self.plant(tree)

    def plant(self, tree):
        """Keep the first tree."""
        self.tree = tree

    def act(self, deed):
        """Do a deed that fits."""
        self.tree = changed(self.tree, deed)

    def value(self):
        """The tree."""
        return self.tree

    def hear(self, hearer):
        """From the next do or do_all on that hearer hears, too."""
        self.hearers.append(hearer)

    def unhear(self, hearer):
        """From the next do or do_all on that hearer hears no more."""
        self.hearers = [other for other in self.hearers if other != hearer]

    def do(self, deed):
        """Do a deed."""
        self.check_free()
        done(self.value(), deed)
        self.act_and_tell([deed])

    def do_all(self, deeds):
        """Do a list of deeds, all or none."""
        self.check_free()
        # All are tried ahead of the first: what hearers were told can't be taken back.
        all_done(self.value(), deeds)
        self.act_and_tell(list(deeds))

    def check_free(self):
        """Refuse deeds while hearers are told or asked to settle."""
        if self.busy:
            raise Busy()

    def act_and_tell(self, deeds):
        """Do deeds that fit, and tell those that hear by now of each."""
        hearers = list(self.hearers)
        self.rounds += 1
        self.busy = True
        try:
            for deed in deeds:
                before = self.value()
                self.act(deed)
                self.acted += 1
                self.last = (before, deed)
                for hearer in hearers:
                    hearer.heard(before, deed)
            for hearer in hearers:
                hearer.settle()
        finally:
            self.busy = False

    def part(self, path):
        """The part at a place."""
        return part_of(self.value(), path)

    def tag(self, path):
        """The tag at a place."""
        return part_of(self.value(), path)[0]

    def many(self, path):
        """How many kids a place has."""
        return len(part_of(self.value(), path)[1])

    def has(self, path):
        """Whether a path is a place of the tree."""
        return has_place(self.value(), path)

    def size(self):
        """How many places there are."""
        return size_of(self.value())

    def depth(self):
        """How many levels there are."""
        return depth_of(self.value())

    def __len__(self):
        return len(places_of(self.value()))

    def __eq__(self, other):
        return isinstance(other, Make) and self.value() == other.value()

    def __str__(self):
        return str(text_of(self.value()))
