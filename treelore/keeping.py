"""Places kept through deeds by tickets, the way back, and watchers."""

from treelore.abreast import Follower
from treelore.errors import NoTicket, NothingBack, Taken
from treelore.leading import deed_back, place_behind
from treelore.trees import check_place, is_count


class Keeper(Follower):
    """Keeps places of a make: spots has where each ticket that is held stands, None where a deed has taken it.

    ends has the deed that took each such ticket; standing, of each deed that
    stands, the deed back and where those stood that it took; due the calls
    of the watcher that are still to be made.
    """

    def __init__(self, make):
        self.spots = {}
        self.ends = {}
        self.issued = 0
        self.turns = 0
        self.standing = []
        self.undoing = False
        self.due = []
        self.watcher = None
        self.follow(make)

    def keep(self, path):
        """A ticket for a place."""
        self.catch_up()
        check_place(self.base.value(), path)
        ticket = self.issued
        self.issued += 1
        self.spots[ticket] = path
        return ticket

    def check_ticket(self, thing):
        """Refuse what is no ticket that is held."""
        self.catch_up()
        if not is_count(thing) or thing not in self.spots:
            raise NoTicket(thing)

    def where(self, ticket):
        """Where a ticket's place is now."""
        self.check_ticket(ticket)
        if ticket in self.ends:
            raise Taken(ticket, self.ends[ticket])
        return self.spots[ticket]

    def let_go(self, ticket):
        """Hold a ticket no more."""
        self.check_ticket(ticket)
        del self.spots[ticket]
        if ticket in self.ends:
            del self.ends[ticket]

    def tickets(self):
        """Each ticket that is held, with its path, None where it is taken, rising."""
        self.catch_up()
        return tuple([(ticket, self.spots[ticket]) for ticket in sorted(list(self.spots))])

    def takes(self):
        """Each ticket that is taken, with the deed that took it, rising."""
        self.catch_up()
        return tuple([(ticket, self.ends[ticket]) for ticket in sorted(list(self.ends))])

    def __len__(self):
        return len(self.spots)

    def lead_on(self, before, deed):
        """Lead the tickets through a deed; an own back lets those stand again that the undone deed took."""
        taken = self.lead(before, deed)
        if self.undoing:
            self.undoing = False
            self.stand_again(self.standing.pop()[1])
        else:
            self.standing.append((deed_back(before, deed), taken))
        if len(taken) > 0:
            self.due.append((self.turns, tuple(sorted(list(taken)))))

    def write_down(self, deed):
        """Count a deed that was heard, once more each time that it is heard."""
        self.turns += 1

    def lead(self, before, deed):
        """Lead the tickets that stand; where those stood that the deed takes."""
        taken = {}
        for ticket in list(self.spots):
            path = self.spots[ticket]
            if path is None:
                continue
            self.spots[ticket] = place_behind(before, deed, path)
            if self.spots[ticket] is None:
                taken[ticket] = path
                self.ends[ticket] = self.turns
        return taken

    def stand_again(self, taken):
        """Let tickets that were taken, and weren't let go, stand where they stood."""
        for ticket in taken:
            if ticket in self.spots:
                self.spots[ticket] = taken[ticket]
                del self.ends[ticket]

    def back(self):
        """Undo the last deed that stands."""
        self.base.check_free()
        if len(self.standing) == 0:
            raise NothingBack()
        self.undoing = True
        try:
            self.base.do(self.standing[-1][0])
        finally:
            self.undoing = False

    def deeds_heard(self):
        """How many deeds it has heard of."""
        self.catch_up()
        return self.turns

    def can_back(self):
        """How many deeds stand."""
        self.catch_up()
        return len(self.standing)

    def watch(self, tell):
        """From now on tell is called for the deeds that take tickets; None: nobody is."""
        self.watcher = tell

    def settle(self):
        """Make the calls that are due; one that raises is made, those behind it stay due."""
        while len(self.due) > 0:
            number, tickets = self.due.pop(0)
            tell = self.watcher
            if tell is not None:
                tell(number, tickets)
