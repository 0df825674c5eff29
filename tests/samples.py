"""Trees at the bounds, things that are none, and a row of deeds without a random source."""

from tests.model import every_deed, judged, why_not


def leaf(tag="a"):
    return (tag, ())


def line(levels, tag="a"):
    """A tree of so many levels, one place at each."""
    tree = leaf(tag)
    for _ in range(levels - 1):
        tree = (tag, (tree,))
    return tree


def stair(levels, tag="a"):
    """A tree of so many levels, each place beneath the second kid of the one above."""
    tree = leaf(tag)
    for _ in range(levels - 1):
        tree = (tag, (leaf(tag), tree))
    return tree


def fan(size, tag="a"):
    """A tree of so many places, all but one of them its kids."""
    return (tag, (leaf("b"),) * (size - 1))


def very_many(levels=55, made=tuple):
    """A thing that says the same part at very many places; nobody could look at all of them."""
    thing = ("a", ())
    for _ in range(levels):
        thing = ("a", made([thing, thing]))
    return thing


SMALL = ("a", (("b", (("c", ()), ("d", (("e", ()),)))), ("f", ()), ("g", (("h", ()), ("i", ()), ("j", ())))))

SAMPLES = [
    leaf(),
    ("a", (leaf("b"),)),
    ("a", (leaf("b"), leaf("b"), leaf("b"))),
    ("a", (("b", (("c", (leaf("d"), leaf("e"))),)), leaf("f"))),
    SMALL,
]

# Things of every kind that may be handed in where a refusal is told; none of them is a tag, a tree, a path or a deed.
ODDITIES = [
    None, True, False, -1, 60, 61, 10 ** 59, "A", "a b", "a\n", "abcdefghi", "\t", [], {}, [()], [0], {"a": ()},
    ("a",), ("a", ()) * 2, ("a", []), ["a", ()], ("a", None), ("", ()), ("a", ("b",)), ("a", (("b", []),)), (("a", ()),),
    (True,), (0, False), (None,), ("0",), ([0],), ((0,),), (-1,), (60,), (0,) * 12, very_many(), very_many(made=list),
    ("name",), ("name", (), "a", "b"), ("name", [], "a"), ("fell", (0,)), (very_many(), ()), ({}, ()), ([], ()),
]


def deed_row(tree, many, seed=1):
    """So many deeds that fit one behind another, mixed by a plain reckoning, words about equally often."""
    words = ("name", "put", "out", "move", "swap", "wrap", "unwrap")
    deeds = []
    while len(deeds) < many:
        choices = every_deed(tree, put=("n", (("o", ()),)))
        seed = (seed * 1103515245 + 12345) & 0x7FFFFFFF
        word = words[(seed >> 8) % 7]
        choices = [deed for deed in choices if deed[0] == word]
        seed = (seed * 1103515245 + 12345) & 0x7FFFFFFF
        deed = choices[(seed >> 8) % len(choices)]
        if why_not(tree, deed) is None:
            deeds.append(deed)
            tree = judged(tree, deed)[0]
    return deeds
