"""A second telling of sides, by which the program is judged, and sides by a mixer."""

from tests.model import find_knob, knob_of, knobs_of, tree_of

WORDS = ("name", "out", "put")


def key(edit):
    return (edit[1], edit[0], edit[2] if edit[0] == "put" else 0)


def within(path, top):
    return path[:len(top)] == top


def led_knobs(tree, side):
    """The knobs of the base by their paths, and the root knob of the tree in which all edits are done."""
    root = knob_of(tree)
    spots = dict(knobs_of(root))
    kids = {path: list(knob.kids) for path, knob in spots.items()}
    marks = {}
    for edit in side:
        if edit[0] == "put":
            marks[edit[1], edit[2]] = edit[3]
        elif edit[0] == "name":
            spots[edit[1]].tag = edit[2]
    for path, knob in spots.items():
        row = []
        for at, kid in enumerate(kids[path] + [None]):
            row += [knob_of(new) for new in marks.get((path, at), ())]
            if kid is not None and ("out", path + (at,)) not in side:
                row.append(kid)
        knob.kids = row
    return spots, root


def plain_led(tree, side):
    """The tree behind all edits, and where each place of the base stands, None if it is gone."""
    spots, root = led_knobs(tree, side)
    return tree_of(root), {path: find_knob(root, knob) for path, knob in spots.items()}


def plain_clash(one, other):
    """[52] by its words, of two edits."""
    words = {one[0], other[0]}
    if words == {"name"}:
        return one[1] == other[1] and one[2] != other[2]
    if words == {"put"}:
        return one[1:3] == other[1:3] and one[3] != other[3]
    if "out" in words and len(words) == 2:
        out, inner = (one, other) if one[0] == "out" else (other, one)
        return within(inner[1], out[1])
    return False


def first_plain_clash(one, other):
    found = [(a, b) for a, ours in enumerate(one) for b, theirs in enumerate(other) if plain_clash(ours, theirs)]
    return min(found) if found else None


def plain_join(one, other):
    """[53] by its words."""
    def lost(edit, side):
        return edit[0] == "out" and any(out[0] == "out" and out[1] != edit[1] and within(edit[1], out[1]) for out in side)

    edits = {edit: True for edit in one if not lost(edit, other)}
    edits.update({edit: True for edit in other if not lost(edit, one)})
    return tuple(sorted(edits, key=key))


def mixed_side(tree, mixer, many, trees=(("x", ()), ("y", (("z", ()),))), tags=("q", "r")):
    """A side of about so many edits, by a mixer."""
    spots = dict(knobs_of(knob_of(tree)))
    side = {}
    for _ in range(many):
        path = mixer.one_of(sorted(spots))
        word = mixer.one_of(WORDS)
        if word == "name":
            edit = ("name", path, mixer.one_of(tags))
        elif word == "out":
            edit = ("out", path)
        else:
            row = tuple(mixer.one_of(trees) for _ in range(1 + mixer.below(2)))
            edit = ("put", path, mixer.below(len(spots[path].kids) + 1), row)
        outs = [elder[1] for elder in side.values() if elder[0] == "out"]
        if edit == ("out", ()) or key(edit) in side or any(within(path, out) for out in outs):
            continue
        if word == "out" and any(within(elder[1], path) for elder in side.values()):
            continue
        side[key(edit)] = edit
    return tuple(side[each] for each in sorted(side))
