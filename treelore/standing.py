"""Questions that stand over a make: their answers are kept through deeds, and told as they go and come."""

from treelore.abreast import Follower
from treelore.answers import answers
from treelore.deeds import changed
from treelore.errors import NoQuestion, TooMany
from treelore.leading import places_led
from treelore.patterns import check_pattern
from treelore.trees import is_count

QUESTIONS = 8
STORY = 20


def led_answer(answer, where):
    """Where an answer is led, by where each place is; None where one of its places is gone."""
    places = [where[path] for path in answer]
    return None if None in places else tuple(places)


def went_and_came(where, ahead, behind):
    """The answers ahead of a deed that are led to none behind it, and those behind it to which none is led."""
    still = {answer: True for answer in behind}
    led_there = {led_answer(answer, where): True for answer in ahead}
    went = tuple([answer for answer in ahead if led_answer(answer, where) not in still])
    came = tuple([answer for answer in behind if answer not in led_there])
    return (went, came)


class Standing(Follower):
    """Questions over a make: asked has their patterns by their numbers, known the tree and answers last reckoned.

    rows has the last of the story; outcome what came of the last deed, news
    what came of each while a do or do_all of its own goes on, else None.
    """

    def __init__(self, make):
        self.asked = {}
        self.known = {}
        self.issued = 0
        self.rows = []
        self.outcome = ()
        self.news = None
        self.follow(make)

    def ask(self, pattern):
        """The number of a new question."""
        check_pattern(pattern)
        if len(self.asked) == QUESTIONS:
            raise TooMany(QUESTIONS + 1)
        self.catch_up()
        number = self.issued
        self.issued += 1
        tree = self.base.value()
        self.asked[number] = pattern
        self.known[number] = (tree, answers(tree, pattern))
        return number

    def check_question(self, thing):
        """Refuse what is no number of a question that stands."""
        if not is_count(thing) or thing not in self.asked:
            raise NoQuestion(thing)

    def drop(self, number):
        """End a question."""
        self.check_question(number)
        self.catch_up()
        del self.asked[number]
        del self.known[number]

    def answers_of(self, number):
        """The answers of a question now."""
        self.check_question(number)
        return self.answers_in(number, self.base.value())

    def answers_in(self, number, tree):
        """The answers of a question in a tree; the known ones where they are of that tree."""
        known_tree, told = self.known[number]
        if known_tree == tree:
            return told
        return answers(tree, self.asked[number])

    def pattern_of(self, number):
        """The pattern of a question."""
        self.check_question(number)
        return self.asked[number]

    def questions(self):
        """The numbers of the questions that stand, rising."""
        return tuple(sorted(list(self.asked)))

    def __len__(self):
        return len(self.asked)

    def lead_on(self, before, deed):
        """Lead the answers through a deed, and reckon what came of it."""
        behind = changed(before, deed)
        where = dict(places_led(before, deed))
        changes = []
        for number in sorted(list(self.asked)):
            ahead = self.answers_in(number, before)
            self.known[number] = (behind, answers(behind, self.asked[number]))
            went, came = went_and_came(where, ahead, self.known[number][1])
            if len(went) > 0 or len(came) > 0:
                changes.append((number, went, came))
        self.outcome = tuple(changes)
        if self.news is not None:
            self.news.append(self.outcome)

    def write_down(self, deed):
        """Write a deed that was heard, and what came of it, into the story."""
        self.rows = (self.rows + [(deed, self.outcome)])[-STORY:]

    def settle(self):
        """Nothing is left to do: all answers were led as the deeds came."""

    def do(self, deed):
        """Do a deed on the make; of each question that it changed its number, what went and what came."""
        # Busy goes ahead of all else: else a call from within another one would take the news of that.
        self.base.check_free()
        self.news = []
        try:
            self.base.do(deed)
            return self.news[0]
        finally:
            self.news = None

    def do_all(self, deeds):
        """Do a list of deeds on the make, all or none; of each what do would tell."""
        self.base.check_free()
        self.news = []
        try:
            self.base.do_all(deeds)
            return tuple(self.news)
        finally:
            self.news = None

    def story(self):
        """The last deeds that were heard, each with what came of it."""
        self.catch_up()
        return list(self.rows)

    def make(self):
        """The make."""
        return self.base

    def __str__(self):
        return "\n".join([f"{number}: {len(self.answers_of(number))} answers" for number in self.questions()])
