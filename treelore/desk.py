"""A desk over a grove: lines of words, and their answers."""

from treelore.errors import Busy, NoCount, NoDeed, NoKind, NoKth, NoLines, NoName, NoOrder, NoPath, NoPlace, NoTag
from treelore.errors import NoTicket, NothingBack, Planted, Root, Stopped, Taken, TooDeep, TooMany, Torn, Within
from treelore.sending import text_of, tree_in
from treelore.walks import in_order
from treelore.words import deed_of_text, number_of_text, path_of_text, path_text

NO_LINE = "no line"
LOG = 100

# What stands behind the first word of each line; of deeds several words may come.
LINES = {
    "begin": ("word", "word", "tree"),
    "drop": ("word",),
    "do": ("word", "deed"),
    "all": ("word", "deeds"),
    "back": ("word",),
    "tree": ("word",),
    "names": (),
    "kind": ("word",),
    "size": ("word", "path"),
    "kth": ("word", "number"),
    "keep": ("word", "path"),
    "where": ("word", "number"),
    "list": ("word", "word"),
}


def words_of(line):
    """The words of a line, those of deeds as one; None where the thing is no line."""
    if not isinstance(line, str):
        return None
    words = line.split(" ")
    if "" in words or words[0] not in LINES:
        return None
    if words[0] in ("do", "all") and len(words) > 2:
        words = words[:2] + [" ".join(words[2:])]
    return words if len(words) == 1 + len(LINES[words[0]]) else None


def thing_of(form, text):
    """What a text of a line means, as the form says."""
    if form == "path":
        return path_of_text(text)
    if form == "number":
        return number_of_text(text)
    if form == "deed":
        return deed_of_text(text)
    if form == "deeds":
        return [deed_of_text(each) for each in text.split(" ; ")]
    if form == "tree":
        return tree_in(text)
    return text


def say_begin(grove, name, kind, tree):
    """The answer of begin."""
    grove.begin(name, tree, kind)
    return "done"


def say_drop(grove, name):
    """The answer of drop."""
    grove.drop(name)
    return "done"


def say_do(grove, name, deed):
    """The answer of do."""
    grove.do(name, deed)
    return "done"


def say_all(grove, name, deeds):
    """The answer of all."""
    grove.do_all(name, deeds)
    return "done"


def say_back(grove, name):
    """The answer of back."""
    grove.back(name)
    return "done"


def say_tree(grove, name):
    """The answer of tree."""
    return text_of(grove.told(name))


def in_a_row(words):
    """Words with a blank between two, - where there are none."""
    return " ".join(words) if len(words) > 0 else "-"


def say_names(grove):
    """The answer of names."""
    return in_a_row(grove.names())


def say_kind(grove, name):
    """The answer of kind."""
    return grove.kind(name)


def say_size(grove, name, path):
    """The answer of size."""
    return str(grove.size_at(name, path))


def say_kth(grove, name, number):
    """The answer of kth."""
    return path_text(grove.kth(name, number))


def say_keep(grove, name, path):
    """The answer of keep."""
    return str(grove.keep(name, path))


def say_where(grove, name, number):
    """The answer of where."""
    try:
        return path_text(grove.where(name, number))
    except Taken as refusal:
        return f"taken {refusal.deed}"


def say_list(grove, name, how):
    """The answer of list."""
    return in_a_row([path_text(path) for path in in_order(grove.told(name), how)])


ANSWERS = {
    "begin": say_begin,
    "drop": say_drop,
    "do": say_do,
    "all": say_all,
    "back": say_back,
    "tree": say_tree,
    "names": say_names,
    "kind": say_kind,
    "size": say_size,
    "kth": say_kth,
    "keep": say_keep,
    "where": say_where,
    "list": say_list,
}


def answer_to(grove, words):
    """The answer to the words of a line; what is none of its kind is refused ahead of what the grove refuses."""
    forms = LINES[words[0]]
    try:
        things = [thing_of(form, text) for form, text in zip(forms, words[1:])]
    except NoPath:
        return "no NoPath"
    except NoDeed:
        return "no NoDeed"
    except Torn:
        return "no NoTree"
    except NoCount:
        return "no NoCount"
    return answer_by(grove, words[0], things)


def answer_by(grove, word, things):
    """The answer of a line whose things are what they must be, or what the grove refuses it with."""
    action = ANSWERS[word]
    try:
        return action(grove, *things)
    except NoTag:
        return "no NoTag"
    except NoName:
        return "no NoName"
    except Planted:
        return "no Planted"
    except NoKind:
        return "no NoKind"
    except TooMany:
        return "no TooMany"
    except TooDeep:
        return "no TooDeep"
    except NoPlace:
        return "no NoPlace"
    except Root:
        return "no Root"
    except Within:
        return "no Within"
    except Stopped as refusal:
        return f"no Stopped {refusal.at}"
    except Busy:
        return "no Busy"
    except NothingBack:
        return "no NothingBack"
    except NoTicket:
        return "no NoTicket"
    except NoKth:
        return "no NoKth"
    except NoOrder:
        return "no NoOrder"


class Desk:
    """Answers lines over a grove; entries is the log of its runs, issued how many there were."""

    def __init__(self, grove):
        self.grove = grove
        self.entries = []
        self.issued = 0
        self.busy = False

    def say(self, line):
        """The answer to a line."""
        words = words_of(line)
        if words is None:
            return NO_LINE
        return answer_to(self.grove, words)

    def run(self, lines, *, tell=None):
        """The answers to a list of lines, each told as it comes."""
        if self.busy:
            raise Busy()
        if not isinstance(lines, list):
            raise NoLines()
        number = self.issued
        self.issued += 1
        self.entries = self.log() + [("begun", number)]
        told = []
        answered = 0
        self.busy = True
        try:
            for line in list(lines):
                answer = self.say(line)
                answered += 1
                told.append(answer)
                if tell is not None:
                    tell(answer)
        finally:
            self.busy = False
            self.entries.append(("ended", number, answered))
        return told

    def is_busy(self):
        """Whether a run goes on."""
        return self.busy

    def log(self):
        """The last of what the log has."""
        return self.entries[-LOG:]
