"""Hearers that are abreast of their make whenever they are asked."""

from treelore.makes import Hearer


class Follower(Hearer):
    """Takes in each deed of a make once, be it as it hears of it, be it as it is asked ahead of that.

    Whoever hears ahead of it may ask it while a deed is told that it hasn't
    heard of yet; the make's tree is the one behind that deed by then. came is
    the make's round in or behind which it came, met how many deeds of the
    make there were when it took in the last one.
    """

    def follow(self, make):
        """Hear of a make from its next do or do_all on."""
        self.base = make
        self.came = make.rounds
        self.met = make.acted
        make.hear(self)

    def heard(self, before, deed):
        """Take in a deed, if that wasn't done already."""
        if self.met != self.base.acted:
            self.met = self.base.acted
            self.lead_on(before, deed)

    def lead_on(self, before, deed):
        """Take in a deed that was done on the tree before; those beneath this class put it otherwise."""

    def is_behind(self):
        """Whether a deed was done of which this one is still to hear; what goes on as it comes it doesn't hear."""
        return self.base.rounds != self.came and self.met != self.base.acted

    def catch_up(self):
        """Take in the deed that is told to others still."""
        if self.is_behind():
            before, deed = self.base.last
            self.heard(before, deed)
