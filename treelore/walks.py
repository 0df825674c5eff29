"""Orders of a tree's places, and walks that go on while the tree is changed."""

from treelore.abreast import Follower
from treelore.deeds import changed, done
from treelore.errors import NoOrder, NoWalk, TooMany, TreeError
from treelore.leading import place_behind
from treelore.trees import check_tree, is_count, is_path, part_at, paths_from

ORDERS = ("ahead", "behind", "levels", "leaves")
WALKS = 8


def in_order(tree, how):
    """A tree's paths in an order."""
    check_tree(tree)
    check_order(how)
    return paths_in(tree, how)


def check_order(thing):
    """Refuse what is no order."""
    if thing not in ORDERS:
        raise NoOrder(thing)


def paths_in(tree, how):
    """The paths of a tree in one of ORDERS."""
    if how == "behind":
        return paths_behind(tree, ())
    paths = paths_from(tree, ())
    if how == "levels":
        # They stand by their paths already, and sorting leaves those of one length as they stand.
        return sorted(paths, key=len)
    if how == "leaves":
        return [path for path in paths if len(part_at(tree, path)[1]) == 0]
    return paths


def paths_behind(tree, path):
    """The paths of a part that stands at path, each behind those of its kids."""
    paths = []
    for at, kid in enumerate(tree[1]):
        paths.extend(paths_behind(kid, path + (at,)))
    paths.append(path)
    return paths


class Walk:
    """One walk: seen has where each place that it has shown is now, None where it is gone, tale its story so far."""

    def __init__(self, how, late):
        self.how = how
        self.late = late
        self.seen = []
        self.tale = []


def still_to_show(walk, seen, tree):
    """The places that a walk which has shown those seen would show one after another if the tree stayed as it is."""
    paths = paths_in(tree, walk.how)
    if not walk.late:
        paths = paths[behind_last_seen(paths, seen):]
    return [path for path in paths if path not in seen]


def behind_last_seen(paths, seen):
    """The number behind that of the place shown last of those that stand among the paths, 0 where none does."""
    for path in reversed(seen):
        if path in paths:
            return paths.index(path) + 1
    return 0


def show_next(walk, tree):
    """Let a walk show its next place; that path, or None."""
    paths = still_to_show(walk, walk.seen, tree)
    shown_now = paths[0] if len(paths) > 0 else None
    if shown_now is not None:
        walk.seen.append(shown_now)
    walk.tale.append(("show", shown_now))
    return shown_now


def seen_behind(seen, before, deed):
    """Where the places that were shown are behind a deed."""
    return [None if path is None else place_behind(before, deed, path) for path in seen]


def right_walk(tree, how, story, *, late=True):
    """Whether a thing is a right story of a walk that began at a tree."""
    check_tree(tree)
    check_order(how)
    if not isinstance(story, tuple):
        return False
    walk = Walk(how, late)
    now = tree
    for step in story:
        if not isinstance(step, tuple) or len(step) != 2:
            return False
        if step[0] == "do" and is_fitting(now, step[1]):
            walk.seen = seen_behind(walk.seen, now, step[1])
            now = changed(now, step[1])
        elif step[0] != "show" or not is_same_path(step[1], show_next(walk, now)):
            return False
    return True


def is_fitting(tree, thing):
    """Whether a thing is a deed that fits the tree."""
    try:
        done(tree, thing)
    except TreeError:
        return False
    return True


def is_same_path(thing, path):
    """Whether a thing is that very path, or None where that is None."""
    if path is None:
        return thing is None
    return is_path(thing) and thing == path


class Walker(Follower):
    """Walks over a make, by their numbers."""

    def __init__(self, make):
        self.walks = {}
        self.issued = 0
        self.follow(make)

    def lead_on(self, before, deed):
        """Lead what the walks have shown through a deed."""
        for number in list(self.walks):
            walk = self.walks[number]
            walk.seen = seen_behind(walk.seen, before, deed)

    def write_down(self, deed):
        """Write a deed that was heard into the stories of the walks."""
        for number in list(self.walks):
            self.walks[number].tale.append(("do", deed))

    def settle(self):
        """Nothing is left to do: all walks were led as the deeds came."""

    def begin(self, how, *, late=True):
        """The number of a new walk."""
        check_order(how)
        if len(self.walks) == WALKS:
            raise TooMany(WALKS + 1)
        self.catch_up()
        number = self.issued
        self.issued += 1
        self.walks[number] = Walk(how, late)
        return number

    def walk_of(self, number):
        """The walk that stands by a number."""
        if not is_count(number) or number not in self.walks:
            raise NoWalk(number)
        self.catch_up()
        return self.walks[number]

    def onward(self, number):
        """The place that a walk shows next, None where nothing is left."""
        return show_next(self.walk_of(number), self.base.value())

    def shown(self, number):
        """Where each place that a walk has shown is now, None where it is gone, in the order they were shown."""
        return tuple(self.walk_of(number).seen)

    def left(self, number):
        """How many places a walk would still show."""
        walk = self.walk_of(number)
        return len(still_to_show(walk, walk.seen, self.base.value()))

    def story(self, number):
        """The story of a walk."""
        return tuple(self.walk_of(number).tale)

    def leave(self, number):
        """End a walk."""
        self.walk_of(number)
        del self.walks[number]

    def __len__(self):
        return len(self.walks)

    def __str__(self):
        return "\n".join([self.line_of(number) for number in self.walks])

    def line_of(self, number):
        """A walk's order, how many places it has shown, and how many with those that are left."""
        walk = self.walks[number]
        seen = walk.seen
        if self.is_behind():
            # Who is only written out takes nothing in.
            before, deed = self.base.last
            seen = seen_behind(seen, before, deed)
        return f"{walk.how} {len(seen)} of {len(seen) + len(still_to_show(walk, seen, self.base.value()))}"
