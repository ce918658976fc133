"""The trees that hang from the ends of a still net, and their leaves."""

from twinforks.errors import BadOther, NotOpen, NotStill
from twinforks.nets import Net, check_net


class Grove:
    """The trees of the ends of a still net.

    A tree's LISTING has its forks' kinds and its leaves' numbers, each fork ahead of what hangs on its leg 0, and that
    ahead of what hangs on its leg 1. Leaves are numbered in the order of trees; of each there is its box, rows as
    strings of figures, and its place.
    """

    def __init__(self, wiring):
        self.work = wiring
        self.boxes = []
        self.leaf_places = []
        self.leaf_at = {}
        self.standing = {}
        self.listings = [self.listed(at) for at in range(len(wiring.names))]

    def listed(self, end_place):
        """The listing of the tree that hangs from an end."""
        listing = []
        left = [(end_place, "", "")]
        while len(left) > 0:
            place, s, t = left.pop()
            back = self.work.mates[place]
            kind = self.kind_of_back(back)
            if kind in ("x", "y"):
                listing.append(kind)
                for figure in (1, 0):
                    on_x, on_y = longer(s, t, kind, str(figure))
                    left.append((back + 1 + figure, on_x, on_y))
            else:
                listing.append(len(self.boxes))
                self.leaf_at[place] = len(self.boxes)
                self.leaf_places.append(place)
                self.boxes.append((self.work.names[end_place], s, t))
        return listing

    def kind_of_back(self, place):
        """The kind of the cell whose back is at a place, which stands in a tree then, "" for an end and a leg."""
        if not self.work.is_back(place):
            return ""
        cell = self.work.cell_at(place)
        self.standing[cell] = True
        return self.work.kinds[cell]

    def partner(self, leaf):
        """The number of the leaf to which one leads, None without one."""
        return self.leaf_at.get(self.work.mates[self.leaf_places[leaf]])

    def node_of(self, leaf):
        """What a leaf leads to: "stop", "ring", or the box of its partner, rows as strings."""
        other = self.partner(leaf)
        if other is not None:
            return self.boxes[other]
        return "stop" if self.work.is_back(self.work.mates[self.leaf_places[leaf]]) else "ring"

    def nodes(self, at):
        """The listing of the tree of an end, leaves told as what they lead to."""
        return [node if node in ("x", "y") else self.node_of(node) for node in self.listings[at]]

    def forks_of(self, at):
        """The cells that are forks of the tree of an end, as they stand in its listing."""
        forks = []
        left = [self.work.mates[at]]
        while len(left) > 0:
            back = left.pop()
            if self.kind_of_back(back) in ("x", "y"):
                forks.append(self.work.cell_at(back))
                left.extend([self.work.mates[back + 2], self.work.mates[back + 1]])
        return forks

    def goal(self, leaf, s, t):
        """The box to which one within a leaf's box goes, rows as strings, None in a shut one."""
        other = self.partner(leaf)
        if other is None:
            return None
        _, leaf_s, leaf_t = self.boxes[leaf]
        end, u, v = self.boxes[other]
        return end, u + s[len(leaf_s):], v + t[len(leaf_t):]

    def leaves_at(self, at):
        """The numbers of the leaves of the tree of an end."""
        return [node for node in self.listings[at] if node not in ("x", "y")]

    def outside(self):
        """The cells that stand in no tree, ascending."""
        return [cell for cell in range(len(self.work.kinds)) if cell not in self.standing]


def longer(s, t, kind, signs):
    """Two rows, that of a kind's figures longer by some."""
    if kind == "x":
        return s + signs, t
    return s, t + signs


def check_still(net):
    check_net(net)
    pairs = net.meeting_pairs()
    if len(pairs) > 0:
        raise NotStill(pairs[0])


def grove_of(net):
    """The trees of what should be a still net."""
    check_still(net)
    return Grove(net.wiring())


def open_grove(net):
    """The trees of what should be an open net."""
    grove = grove_of(net)
    cells = grove.outside()
    if len(cells) > 0:
        raise NotOpen(cells[0])
    return grove


def check_open(net):
    open_grove(net)


def check_other(net, other):
    """The other one of two nets has to have the same ends."""
    if not isinstance(other, Net) or other.ends() != net.ends():
        raise BadOther(other)
