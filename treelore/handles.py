"""A make in which each place has a handle, a number that it keeps wherever deeds lead it."""

from treelore.deeds import FORMS, changed, has_word, is_of_form
from treelore.errors import Gone, NoDeed, NoHandle
from treelore.leading import places_led
from treelore.makes import Make
from treelore.trees import check_place, is_count, paths_from


def is_handle_deed(thing):
    """Whether a thing has the form of a deed, with numbers where its paths would stand."""
    if not has_word(thing):
        return False
    return all([is_of_handle_form(form, field) for form, field in zip(FORMS[thing[0]], thing[1:])])


def is_of_handle_form(form, thing):
    """Whether a thing may stand in a handle deed where the form says what stands in a deed."""
    if form == "path":
        return is_count(thing)
    return is_of_form(form, thing)


class HandleTree(Make):
    """A make with handles: held is the handle at each path, ends the deed that took each handle that is gone."""

    def plant(self, tree):
        """Keep the first tree, its places numbered in the order of their paths."""
        self.tree = tree
        self.held = {}
        self.ends = {}
        self.issued = 0
        self.turns = 0
        self.give_handles()

    def act(self, deed):
        """Do a deed that fits, and lead the handles."""
        elder = self.held
        rows = places_led(self.tree, deed)
        self.tree = changed(self.tree, deed)
        self.held = {}
        for path, there in rows:
            if there is None:
                self.ends[elder[path]] = self.turns
            else:
                self.held[there] = elder[path]
        self.give_handles()
        self.turns += 1

    def give_handles(self):
        """Give the next handles to the places that have none, in the order of their paths."""
        for path in paths_from(self.tree, ()):
            if path not in self.held:
                self.held[path] = self.issued
                self.issued += 1

    def handle_of(self, path):
        """The handle of a place."""
        check_place(self.tree, path)
        return self.held[path]

    def path_of(self, handle):
        """Where the place of a handle is now."""
        if not is_count(handle) or handle >= self.issued:
            raise NoHandle(handle)
        if handle in self.ends:
            raise Gone(handle, self.ends[handle])
        places = {self.held[path]: path for path in self.held}
        return places[handle]

    def above(self, handle):
        """The handle of the place whose kid a handle's place is, None of the tree's own."""
        path = self.path_of(handle)
        if path == ():
            return None
        return self.held[path[:-1]]

    def below(self, handle):
        """The handles of the kids of a handle's place, in order."""
        path = self.path_of(handle)
        return tuple([self.held[path + (at,)] for at in range(self.many(path))])

    def tag_by(self, handle):
        """The tag of a handle's place."""
        return self.tag(self.path_of(handle))

    def handles(self):
        """The handles of all places, in the order of their paths."""
        return tuple([self.held[path] for path in sorted(list(self.held))])

    def given(self):
        """How many handles were given so far."""
        return self.issued

    def acts(self):
        """How many deeds were done."""
        return self.turns

    def gone(self):
        """The pairs of each handle whose place is gone and the deed that took it, rising."""
        return tuple([(handle, self.ends[handle]) for handle in sorted(list(self.ends))])

    def by_paths(self, deed):
        """The deed that a handle deed means now."""
        if not is_handle_deed(deed):
            raise NoDeed()
        fields = [deed[0]]
        for form, field in zip(FORMS[deed[0]], deed[1:]):
            fields.append(self.path_of(field) if form == "path" else field)
        return tuple(fields)

    def do_by(self, deed):
        """Do what a handle deed means now."""
        self.do(self.by_paths(deed))
