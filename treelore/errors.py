"""The refusals of Treelore: each stands beneath one of three heads, and has the fields that are told of it."""


class TreeError(ValueError):
    """Any refusal."""


class NoThing(TreeError):
    """What is handed in is none of these."""


class NoFit(TreeError):
    """It is one, but not here."""


class Cut(TreeError):
    """Something ended within."""


class NoTree(NoThing):
    """It is no tree."""


class NoTag(NoThing):
    """It is no tag."""


class NoPath(NoThing):
    """It is no path."""


class NoDeed(NoThing):
    """It is no deed, or no list of them."""


class NoTie(NoThing):
    """It is no even tie, or nothing of which one is made."""


class NoText(NoThing):
    """It is no text."""


class NoNumbers(NoThing):
    """It is no tuple of numbers."""


class NoRows(NoThing):
    """It is no tuple of rows."""


class NoFlat(NoThing):
    """It is no flat row."""


class NoLines(NoThing):
    """It is no list of lines."""


class NoCount(NoThing):
    """The argument of that name is no number."""

    def __init__(self, what):
        self.what = what


class NoPattern(NoThing):
    """The argument of that name is no pattern."""

    def __init__(self, what):
        self.what = what


class NoTest(NoThing):
    """The argument of that name is no test."""

    def __init__(self, what):
        self.what = what


class NoWay(NoThing):
    """The argument of that name is no way."""

    def __init__(self, what):
        self.what = what


class NoAnswer(NoThing):
    """The argument of that name is no answer."""

    def __init__(self, what):
        self.what = what


class NoCosts(NoThing):
    """The argument of that name is no costs."""

    def __init__(self, what):
        self.what = what


class NoMatching(NoThing):
    """The argument of that name is no matching."""

    def __init__(self, what):
        self.what = what


class NoHandle(NoThing):
    """It is no handle that was ever given."""

    def __init__(self, handle):
        self.handle = handle


class NoTicket(NoThing):
    """It is no ticket that is held."""

    def __init__(self, ticket):
        self.ticket = ticket


class NoOrder(NoThing):
    """It is no order of a walk."""

    def __init__(self, how):
        self.how = how


class NoSide(NoThing):
    """The edit of that number makes it no side; None where no single one does."""

    def __init__(self, at):
        self.at = at


class NoKind(NoThing):
    """It is no kind of make."""

    def __init__(self, what):
        self.what = what


class NoEdition(NoFit):
    """There is no edition of that number."""

    def __init__(self, number):
        self.number = number


class NoWalk(NoFit):
    """No walk of that number stands."""

    def __init__(self, number):
        self.number = number


class NoKth(NoFit):
    """There are no more places than that."""

    def __init__(self, number):
        self.number = number


class NoQuestion(NoFit):
    """No question of that number stands."""

    def __init__(self, number):
        self.number = number


class NoPlace(NoFit):
    """The tree has no such place."""

    def __init__(self, path):
        self.path = path


class Root(NoFit):
    """The tree's own place can't be used so."""

    def __init__(self, path):
        self.path = path


class Within(NoFit):
    """One of two places is the other, or beneath it."""

    def __init__(self, path):
        self.path = path


class TooMany(NoFit):
    """There would be so many, which is more than may be."""

    def __init__(self, count):
        self.count = count


class TooDeep(NoFit):
    """There would be so many levels, which is more than may be."""

    def __init__(self, count):
        self.count = count


class NoItem(NoFit):
    """There is no item at that place."""

    def __init__(self, at):
        self.at = at


class Gone(NoFit):
    """The handle's place was taken by the deed of that number."""

    def __init__(self, handle, deed):
        self.handle = handle
        self.deed = deed


class Taken(NoFit):
    """The ticket was taken by the deed of that number."""

    def __init__(self, ticket, deed):
        self.ticket = ticket
        self.deed = deed


class Clashing(NoFit):
    """The edits of these numbers clash."""

    def __init__(self, ours, theirs):
        self.ours = ours
        self.theirs = theirs


class Planted(NoFit):
    """There is a tree of that name."""

    def __init__(self, name):
        self.name = name


class NoName(NoFit):
    """There is no tree of that name."""

    def __init__(self, name):
        self.name = name


class NothingBack(NoFit):
    """No deed stands that could be undone."""


class Heard(NoFit):
    """Somebody hears of the tree."""


class Stopped(Cut):
    """The one of that number in a list was refused."""

    def __init__(self, at):
        self.at = at


class Torn(Cut):
    """It is torn at that sign, thing or row."""

    def __init__(self, at):
        self.at = at


class NoRow(Cut):
    """The row of that number is none."""

    def __init__(self, at):
        self.at = at


class Busy(Cut):
    """It is still being told or run."""
