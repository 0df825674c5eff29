"""Trees sent as texts and as numbers, read back, and where a part stands in them."""

from treelore.errors import NoNumbers, NoText, Torn
from treelore.trees import DEPTH, SIGNS, SIZE, check_place, check_tree, is_number

LETTERS = "abcdefghijklmnopqrstuvwxyz"


def text_of(tree):
    """The text of a tree."""
    check_tree(tree)
    return text_within(tree)


def text_within(tree):
    """The text of a part."""
    tag, kids = tree
    if len(kids) == 0:
        return tag
    return tag + "(" + ",".join([text_within(kid) for kid in kids]) + ")"


def sent_numbers(tree):
    """The numbers of a tree."""
    check_tree(tree)
    return tuple(numbers_within(tree))


def numbers_within(tree):
    """The numbers of a part, a list."""
    tag, kids = tree
    numbers = [len(kids), len(tag)]
    numbers.extend([LETTERS.index(sign) + 1 for sign in tag])
    for kid in kids:
        numbers.extend(numbers_within(kid))
    return numbers


def tree_in(text):
    """The tree that has this text."""
    if not isinstance(text, str):
        raise NoText()
    reader = TextReader(text)
    tree = reader.read_part(1)
    if reader.at < len(text):
        raise Torn(reader.at)
    return tree


def tree_of_numbers(numbers):
    """The tree that has these numbers."""
    if not isinstance(numbers, tuple):
        raise NoNumbers()
    reader = NumberReader(numbers)
    tree = reader.read_part(1)
    if reader.at < len(numbers):
        raise Torn(reader.at)
    return tree


class TextReader:
    """Reads a text sign by sign: at is how many signs were read, begun how many places began there.

    No sign is read behind which no tree's text could go on, so where reading
    stops is where the text is torn.
    """

    def __init__(self, text):
        self.text = text
        self.at = 0
        self.begun = 0

    def comes(self, sign):
        """Whether that sign comes next; if so it is read."""
        if self.text[self.at:self.at + 1] != sign:
            return False
        self.at += 1
        return True

    def read_part(self, level):
        """The part that begins here, at a level counted from 1."""
        self.begun += 1
        tag = self.read_tag()
        kids = []
        if level < DEPTH and self.begun < SIZE and self.comes("("):
            kids.append(self.read_part(level + 1))
            while self.begun < SIZE and self.comes(","):
                kids.append(self.read_part(level + 1))
            if not self.comes(")"):
                raise Torn(self.at)
        return (tag, tuple(kids))

    def read_tag(self):
        """The tag that begins here."""
        first = self.at
        for sign in self.text[first:first + SIGNS]:
            if sign not in LETTERS:
                break
            self.at += 1
        if self.at == first:
            raise Torn(first)
        return self.text[first:self.at]


class NumberReader:
    """Reads a tuple thing by thing: at is how many were read, due how many places the tree must have by those."""

    def __init__(self, numbers):
        self.numbers = numbers
        self.at = 0
        self.due = 1

    def read_number(self, low, high):
        """The next thing, which must be a number from low to high."""
        if self.at == len(self.numbers):
            raise Torn(self.at)
        thing = self.numbers[self.at]
        if not is_number(thing, high) or thing < low:
            raise Torn(self.at)
        self.at += 1
        return thing

    def read_part(self, level):
        """The part that begins here, at a level counted from 1."""
        most = SIZE - self.due if level < DEPTH else 0
        many = self.read_number(0, most)
        self.due += many
        tag = self.read_tag()
        kids = []
        for at in range(many):
            kids.append(self.read_part(level + 1))
        return (tag, tuple(kids))

    def read_tag(self):
        """The tag whose length comes next."""
        length = self.read_number(1, SIGNS)
        tag = ""
        for at in range(length):
            tag += LETTERS[self.read_number(1, len(LETTERS)) - 1]
        return tag


def span(tree, path):
    """From where to where a part's text stands in the whole's."""
    check_tree(tree)
    check_place(tree, path)
    begin = 0
    part = tree
    for step in path:
        tag, kids = part
        # Behind the tag stands a bracket, behind each kid ahead of this one a comma.
        begin += len(tag) + 1 + sum([len(text_within(kid)) + 1 for kid in kids[:step]])
        part = kids[step]
    return (begin, begin + len(text_within(part)))


def span_of_numbers(tree, path):
    """From where to where a part's numbers stand in the whole's."""
    check_tree(tree)
    check_place(tree, path)
    begin = 0
    part = tree
    for step in path:
        tag, kids = part
        begin += 2 + len(tag) + sum([len(numbers_within(kid)) for kid in kids[:step]])
        part = kids[step]
    return (begin, begin + len(numbers_within(part)))
