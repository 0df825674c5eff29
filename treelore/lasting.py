"""A make that keeps all its editions, made of knots that they share."""

from treelore.deeds import changed
from treelore.errors import Heard, NoEdition
from treelore.leading import places_led
from treelore.makes import Make
from treelore.trees import is_count


class LastingTree(Make):
    """A make with editions: made has each knot's tag and kids by its number, roots the root's knot of each edition."""

    def plant(self, tree):
        """Make the first edition, a new knot for each place."""
        self.made = []
        self.roots = []
        self.roots.append(self.knot_for(tree, (), {}))

    def act(self, deed):
        """Begin the edition behind a deed that fits."""
        tree = self.value()
        elder = dict(self.knots_by_paths(self.roots[-1], ()))
        kept = {there: elder[path] for path, there in places_led(tree, deed) if there is not None}
        self.roots.append(self.knot_for(changed(tree, deed), (), kept))

    def knot_for(self, tree, path, kept):
        """The number of the knot for the part at path: the kept one of that place if it is still so, else a new one."""
        tag, parts = tree
        kids = []
        for at, part in enumerate(parts):
            kids.append(self.knot_for(part, path + (at,), kept))
        knot = (tag, tuple(kids))
        if path in kept and self.made[kept[path]] == knot:
            return kept[path]
        self.made.append(knot)
        return len(self.made) - 1

    def knots_by_paths(self, number, path):
        """The pairs of path and knot of all places of the part that stands at path and begins with that knot."""
        rows = [(path, number)]
        for at, kid in enumerate(self.made[number][1]):
            rows.extend(self.knots_by_paths(kid, path + (at,)))
        return rows

    def part_by_knot(self, number):
        """The tree that begins with a knot."""
        tag, kids = self.made[number]
        return (tag, tuple([self.part_by_knot(kid) for kid in kids]))

    def knots_beneath(self, number):
        """The numbers of a knot and of all beneath it."""
        return [knot for path, knot in self.knots_by_paths(number, ())]

    def root_of(self, number):
        """The number of an edition's root knot."""
        if not is_count(number) or number >= len(self.roots):
            raise NoEdition(number)
        return self.roots[number]

    def value(self):
        """The tree of the last edition."""
        return self.part_by_knot(self.roots[-1])

    def edition(self, number):
        """The tree of an edition."""
        return self.part_by_knot(self.root_of(number))

    def editions(self):
        """How many editions there are."""
        return len(self.roots)

    def go_to(self, number):
        """Begin an edition that is an elder one."""
        self.check_free()
        root = self.root_of(number)
        if len(self.hearers) > 0:
            raise Heard()
        self.roots.append(root)

    def knots(self, number):
        """The knots of an edition, rising: each one's number, tag and kids' numbers."""
        numbers = sorted(self.knots_beneath(self.root_of(number)))
        return tuple([(knot, self.made[knot][0], self.made[knot][1]) for knot in numbers])

    def shared(self, number, other):
        """How many knots two editions both have."""
        ours = self.knots_beneath(self.root_of(number))
        theirs = self.knots_beneath(self.root_of(other))
        return len([knot for knot in ours if knot in theirs])
