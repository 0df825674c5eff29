"""Ties that are even, taken apart and knitted together again: nothing is checked here, tied.py does that."""


def many_in(tie):
    """How many items a tie has."""
    if tie is None:
        return 0
    return tie[3]


def knit(left, item, right):
    """The tie of two ties and an item between them, as they are."""
    return (left, item, right, many_in(left) + 1 + many_in(right))


def single(item):
    """The tie of one item."""
    return knit(None, item, None)


def is_balance(one, other):
    """Whether so many items on the one side and so many on the other are even."""
    return one + 1 <= 3 * (other + 1) and other + 1 <= 3 * (one + 1)


def linked(left, item, right):
    """The even tie of two even ties, however unlike their weights are, and an item between them.

    The lighter one is let down along the inner edge of the heavier one till
    both are of a kind; on the way up each tie is turned where it leans.
    """
    if many_in(left) + 1 > 3 * (many_in(right) + 1):
        return turned_right(linked(left[2], item, right), left)
    if many_in(right) + 1 > 3 * (many_in(left) + 1):
        return turned_left(linked(left, item, right[0]), right)
    return knit(left, item, right)


def turned_right(heavy, top):
    """The tie top with another right side, which may be a little too heavy for its left one."""
    left, item = top[0], top[1]
    if is_balance(many_in(left), many_in(heavy)):
        return knit(left, item, heavy)
    inner, middle, outer = heavy[:3]
    together = many_in(left) + 1 + many_in(inner)
    if is_balance(many_in(left), many_in(inner)) and is_balance(together, many_in(outer)):
        return knit(knit(left, item, inner), middle, outer)
    return knit(knit(left, item, inner[0]), inner[1], knit(inner[2], middle, outer))


def turned_left(heavy, top):
    """The tie top with another left side, which may be a little too heavy for its right one."""
    item, right = top[1], top[2]
    if is_balance(many_in(heavy), many_in(right)):
        return knit(heavy, item, right)
    outer, middle, inner = heavy[:3]
    together = many_in(inner) + 1 + many_in(right)
    if is_balance(many_in(inner), many_in(right)) and is_balance(many_in(outer), together):
        return knit(outer, middle, knit(inner, item, right))
    return knit(knit(outer, middle, inner[0]), inner[1], knit(inner[2], item, right))


def nth(tie, at):
    """The at-th item."""
    left, item, right = tie[:3]
    if at < many_in(left):
        return nth(left, at)
    if at == many_in(left):
        return item
    return nth(right, at - many_in(left) - 1)


def all_in(tie):
    """The list of the items."""
    if tie is None:
        return []
    return all_in(tie[0]) + [tie[1]] + all_in(tie[2])


def built(items):
    """The tie of a list or tuple of items, as many on the left as on the right."""
    if len(items) == 0:
        return None
    middle = len(items) // 2
    return knit(built(items[:middle]), items[middle], built(items[middle + 1:]))


def with_item(tie, at, item):
    """The tie with an item more, the at-th."""
    if tie is None:
        return single(item)
    left, own, right = tie[:3]
    if at <= many_in(left):
        return linked(with_item(left, at, item), own, right)
    return linked(left, own, with_item(right, at - many_in(left) - 1, item))


def without_item(tie, at):
    """The tie without its at-th item."""
    left, own, right = tie[:3]
    if at < many_in(left):
        return linked(without_item(left, at), own, right)
    if at > many_in(left):
        return linked(left, own, without_item(right, at - many_in(left) - 1))
    return both_of(left, right)


def both_of(one, other):
    """The tie of the items of one, and behind them those of the other."""
    if other is None:
        return one
    return linked(one, nth(other, 0), without_item(other, 0))


def halves(tie, at):
    """The tie of the first at items, and that of the others."""
    if at == 0:
        return (None, tie)
    if at == many_in(tie):
        return (tie, None)
    left, item, right = tie[:3]
    if at <= many_in(left):
        first, rest = halves(left, at)
        return (first, linked(rest, item, right))
    first, rest = halves(right, at - many_in(left) - 1)
    return (linked(left, item, first), rest)


def with_run(tie, at, many, run):
    """The tie in which a run of other items stands instead of so many of its own, from the at-th on."""
    first, rest = halves(tie, at)
    return both_of(both_of(first, run), halves(rest, many)[1])
