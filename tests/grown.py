"""Trees for the tests: all shapes of a size, and mixed ones by a plain reckoning."""

import functools


@functools.lru_cache(None)
def shapes(size):
    """All trees of so many places, with the tag a throughout."""
    return [("a", kids) for kids in rows_of_parts(size - 1)]


@functools.lru_cache(None)
def rows_of_parts(size):
    """All rows of trees that have so many places together."""
    if size == 0:
        return [()]
    return [(first,) + rest for head in range(1, size + 1) for first in shapes(head) for rest in rows_of_parts(size - head)]


class Mixer:
    """Numbers without a random source."""

    def __init__(self, seed):
        self.seed = seed * 7919 + 12345

    def below(self, most):
        self.seed = (self.seed * 1103515245 + 12345) & 0x7FFFFFFF
        return (self.seed >> 9) % most

    def one_of(self, things):
        return things[self.below(len(things))]


def mixed_tree(seed, size, tags=("a", "b", "c"), deep=11):
    """A tree of so many places, grown by a mixer, none deeper than told."""
    mixer = Mixer(seed)
    kids = {(): []}
    places = [()]
    while len(places) < size:
        above = mixer.one_of(places)
        if len(above) < deep:
            path = above + (len(kids[above]),)
            kids[above].append(path)
            kids[path] = []
            places.append(path)
    chosen = {path: mixer.one_of(tags) for path in sorted(places)}

    def part(path):
        return (chosen[path], tuple(part(kid) for kid in kids[path]))

    return part(())


def retagged(tree, seed, tags=("a", "b")):
    """The tree with tags by a mixer."""
    mixer = Mixer(seed)

    def part(inner):
        return (mixer.one_of(tags), tuple(part(kid) for kid in inner[1]))

    return part(tree)
