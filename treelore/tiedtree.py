"""A make whose kids at each place are a tie."""

from treelore.knits import all_in, built, halves, knit, nth, single, with_run
from treelore.makes import Make
from treelore.steps import behind_out
from treelore.trees import check_place


class TiedTree(Make):
    """A make of ties: nodes has by a node's number its tag and the tie of its kids' numbers; 0 is the tree's own."""

    def plant(self, tree):
        """Keep the first tree."""
        self.nodes = {}
        self.issued = 0
        self.node_for(tree)

    def node_for(self, tree):
        """The number of a new node for a part."""
        number = self.new_node(tree[0], None)
        self.nodes[number] = (tree[0], built([self.node_for(kid) for kid in tree[1]]))
        return number

    def new_node(self, tag, kids):
        """The number of a new node with a tag and a tie of kids."""
        number = self.issued
        self.issued += 1
        self.nodes[number] = (tag, kids)
        return number

    def forget(self, number):
        """Drop a node and all beneath it."""
        for kid in all_in(self.nodes[number][1]):
            self.forget(kid)
        del self.nodes[number]

    def node_at(self, path):
        """The number of the node at a place."""
        number = 0
        for step in path:
            number = nth(self.nodes[number][1], step)
        return number

    def exchange(self, path, at, many, run):
        """Put a run, a tie, instead of so many kids of a place, from the at-th on."""
        number = self.node_at(path)
        tag, kids = self.nodes[number]
        self.nodes[number] = (tag, with_run(kids, at, many, run))

    def act(self, deed):
        """Do a deed that fits."""
        word, path = deed[:2]
        if word == "name":
            number = self.node_at(path)
            self.nodes[number] = (deed[2], self.nodes[number][1])
        elif word == "put":
            self.exchange(path, deed[2], 0, single(self.node_for(deed[3])))
        elif word == "out":
            number = self.node_at(path)
            self.exchange(path[:-1], path[-1], 1, None)
            self.forget(number)
        elif word == "move":
            self.act_move(path, deed[2], deed[3])
        elif word == "swap":
            self.act_swap(path, deed[2])
        elif word == "wrap":
            self.act_wrap(path, deed[2], deed[3], deed[4])
        else:
            number = self.node_at(path)
            self.exchange(path[:-1], path[-1], 1, self.nodes[number][1])
            del self.nodes[number]

    def act_move(self, path, other, at):
        """Do a move that fits."""
        number = self.node_at(path)
        self.exchange(path[:-1], path[-1], 1, None)
        self.exchange(behind_out(other, path), at, 0, single(number))

    def act_swap(self, path, other):
        """Do a swap that fits."""
        one, two = self.node_at(path), self.node_at(other)
        self.exchange(path[:-1], path[-1], 1, single(two))
        self.exchange(other[:-1], other[-1], 1, single(one))

    def act_wrap(self, path, at, many, tag):
        """Do a wrap that fits."""
        kids = self.nodes[self.node_at(path)][1]
        run = halves(halves(kids, at)[1], many)[0]
        self.exchange(path, at, many, single(self.new_node(tag, run)))

    def value(self):
        """The tree."""
        return self.part_from(0)

    def part_from(self, number):
        """The part that begins with a node."""
        tag, kids = self.nodes[number]
        return (tag, tuple([self.part_from(kid) for kid in all_in(kids)]))

    def tie(self, path):
        """The tie of the tags of a place's kids."""
        check_place(self.value(), path)
        return self.tags_like(self.nodes[self.node_at(path)][1])

    def tags_like(self, tie):
        """The tie of tags that is made just as a tie of nodes' numbers is."""
        if tie is None:
            return None
        left, number, right = tie[:3]
        return knit(self.tags_like(left), self.nodes[number][0], self.tags_like(right))
