"""Hearers that are abreast of their make whenever they are asked."""

from treelore.makes import Hearer


class Follower(Hearer):
    """Is led through each deed of a make once, and writes it down each time that it hears of it.

    Whoever hears ahead of it may ask it while a deed is told that it hasn't
    heard of yet; the make's tree is the one behind that deed by then. came is
    the make's round in or behind which it came, met how many deeds of the
    make there were when it took in the last one, early whether it was asked
    for that one ahead of its first hearing, which is still to come.
    """

    def follow(self, make):
        """Hear of a make from its next do or do_all on."""
        self.base = make
        self.came = make.rounds
        self.met = make.acted
        self.early = False
        make.hear(self)

    def heard(self, before, deed):
        """Take in a deed; one that was taken in already, as it was heard, is only written down again."""
        if self.met != self.base.acted:
            self.take_in(before, deed, False)
        elif self.early:
            # It was written down for this hearing as it was taken in ahead of it.
            self.early = False
        else:
            self.write_down(deed)

    def take_in(self, before, deed, early):
        """Be led through a deed, and write it down for its first hearing, early if that is still to come."""
        self.met = self.base.acted
        self.early = early
        self.lead_on(before, deed)
        self.write_down(deed)

    def lead_on(self, before, deed):
        """Lead what is kept through a deed done on the tree before; those beneath this class put it otherwise."""

    def write_down(self, deed):
        """A deed was heard, through which all was led; those beneath this class put it otherwise."""

    def is_behind(self):
        """Whether a deed was done of which this one is still to hear; what goes on as it comes it doesn't hear."""
        return self.base.rounds != self.came and self.met != self.base.acted

    def catch_up(self):
        """Take in the deed that is told to others still."""
        if self.is_behind():
            before, deed = self.base.last
            self.take_in(before, deed, True)
