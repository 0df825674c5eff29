"""A grove: trees kept by their names, each in a make of some kind, with a way back, visits and a log."""

from treelore.answers import answers
from treelore.counts import Counts
from treelore.differ import difference
from treelore.errors import NoKind, NoName, NoTag, Planted, TooMany
from treelore.flat import FlatTree
from treelore.handles import HandleTree
from treelore.joining import three_ways
from treelore.keeping import Keeper
from treelore.lasting import LastingTree
from treelore.makes import Make
from treelore.sending import text_of
from treelore.tiedtree import TiedTree
from treelore.trees import check_tree, is_tag
from treelore.walks import Walker, check_order

KINDS = ("plain", "handles", "lasting", "flat", "tied")
TREES = 8
VISITS = 200


def check_tag(thing):
    """Refuse what is no tag."""
    if not is_tag(thing):
        raise NoTag()


def check_kind(thing):
    """Refuse what is no kind of make."""
    if thing not in KINDS:
        raise NoKind(thing)


def make_of(kind, tree):
    """A make of a kind."""
    check_kind(kind)
    if kind == "handles":
        return HandleTree(tree)
    if kind == "lasting":
        return LastingTree(tree)
    if kind == "flat":
        return FlatTree(tree)
    if kind == "tied":
        return TiedTree(tree)
    return Make(tree)


class Plot:
    """A tree of a grove: its make, of the kind made_as, and those over it; idle has the walkers of ended visits."""

    def __init__(self, made_as, tree):
        self.made_as = made_as
        self.base = make_of(made_as, tree)
        self.keeper = Keeper(self.base)
        self.counts = Counts(self.base)
        self.idle = []

    def sweep(self):
        """Let the walkers of visits that have ended hear no more."""
        for walker in self.idle:
            self.base.unhear(walker)
        self.idle = []


class Grove:
    """Trees by their names: plots has them, entries is the log."""

    def __init__(self):
        self.plots = {}
        self.entries = []

    def plot_of(self, name):
        """What stands by a name; refuse what is no tag, then what is no name."""
        check_tag(name)
        if name not in self.plots:
            raise NoName(name)
        return self.plots[name]

    def check_new(self, name):
        """Refuse a name that is there already."""
        if name in self.plots:
            raise Planted(name)

    def lay_out(self, name, tree, kind):
        """Begin a tree that is refused for nothing but that there would be too many."""
        if len(self.plots) == TREES:
            raise TooMany(TREES + 1)
        self.plots[name] = Plot(kind, tree)
        self.entries.append(("begin", name, kind, tree))

    def begin(self, name, tree, kind):
        """Keep a tree by a name, in a make of a kind."""
        check_tag(name)
        self.check_new(name)
        check_tree(tree)
        check_kind(kind)
        self.lay_out(name, tree, kind)

    def drop(self, name):
        """Keep a tree no more."""
        self.plot_of(name)
        del self.plots[name]
        self.entries.append(("drop", name))

    def names(self):
        """The names, rising."""
        return tuple(sorted(list(self.plots)))

    def kind(self, name):
        """The kind of a tree's make."""
        return self.plot_of(name).made_as

    def told(self, name):
        """The tree of a name."""
        return self.plot_of(name).base.value()

    def do(self, name, deed):
        """Do a deed on a tree."""
        self.plot_of(name).base.do(deed)
        self.entries.append(("do", name, deed))

    def do_all(self, name, deeds):
        """Do a list of deeds on a tree, all or none."""
        self.plot_of(name).base.do_all(deeds)
        self.entries.append(("all", name, tuple(deeds)))

    def back(self, name):
        """Undo the last deed on a tree that stands."""
        self.plot_of(name).keeper.back()
        self.entries.append(("back", name))

    def keep(self, name, path):
        """A ticket for a place of a tree."""
        return self.plot_of(name).keeper.keep(path)

    def where(self, name, ticket):
        """Where a ticket's place is now."""
        return self.plot_of(name).keeper.where(ticket)

    def size_at(self, name, path):
        """How many places the part at a place of a tree has."""
        return self.plot_of(name).counts.size_at(path)

    def kth(self, name, number):
        """The path of the place with a number in a tree's walk ahead."""
        return self.plot_of(name).counts.kth(number)

    def find(self, name, pattern):
        """The answers of a pattern in a tree."""
        return answers(self.told(name), pattern)

    def difference(self, name, other):
        """The deeds that lead the one tree into the other."""
        return difference(self.told(name), self.told(other))

    def join(self, name, base, ours, theirs, kind):
        """Keep three trees joined by a new name, in a make of a kind."""
        check_tag(name)
        trees = [self.told(each) for each in (base, ours, theirs)]
        self.check_new(name)
        check_kind(kind)
        self.lay_out(name, three_ways(trees[0], trees[1], trees[2]), kind)

    def visit(self, name, how, tell, *, late=True):
        """Call tell with each path that a walk over a tree shows; how many it showed."""
        plot = self.plot_of(name)
        check_order(how)
        plot.sweep()
        walker = Walker(plot.base)
        number = walker.begin(how, late=late)
        many = 0
        self.entries.append(("visit", name, how))
        try:
            path = walker.onward(number)
            while path is not None:
                many += 1
                tell(path)
                path = walker.onward(number) if many < VISITS else None
        finally:
            self.entries.append(("left", name, many))
            plot.idle.append(walker)
        return many

    def log(self):
        """What was done, in order."""
        return list(self.entries)

    def __len__(self):
        return len(self.plots)

    def __eq__(self, other):
        return isinstance(other, Grove) and str(self) == str(other)

    def __str__(self):
        return "\n".join([f"{name} {self.kind(name)} {text_of(self.told(name))}" for name in self.names()])
