"""Trees told by listings: for each end forks' kinds and leaves, each fork ahead of what hangs on its leg 0, and that
ahead of what hangs on its leg 1. A leaf is "stop", "ring", or the box of the leaf to which it leads, rows as strings.
"""

from twinforks.forms import box_of
from twinforks.leaves import longer
from twinforks.nets import net_of_wiring
from twinforks.wirings import Wiring


def told_leaf(node):
    return (node,) if node in ("stop", "ring") else ("to", box_of(node))


def tree_told(listing):
    """A tree as it is told, forks within one another."""
    told = []
    # From behind, what hangs on a fork is there ahead of it.
    for node in reversed(listing):
        if node in ("x", "y"):
            first = told.pop()
            told.append((node, first, told.pop()))
        else:
            told.append(told_leaf(node))
    return told[0]


class TreePlanter:
    """Lets trees grow in a wiring, and wires their leaves."""

    def __init__(self, ends):
        self.work = Wiring(ends, [])
        self.leaf_place = {}
        self.goals = {}

    def plant(self, at, listing):
        """Lets the tree of a listing hang from an end."""
        left = [(at, "", "")]
        for node in listing:
            place, s, t = left.pop()
            if node == "stop":
                self.work.link(place, self.work.grow("stop", 0), 0)
            elif node in ("x", "y"):
                back = self.work.grow(node, 0)
                self.work.link(place, back, 0)
                for figure in (1, 0):
                    on_x, on_y = longer(s, t, node, str(figure))
                    left.append((back + 1 + figure, on_x, on_y))
            else:
                box = (self.work.names[at], s, t)
                self.leaf_place[box] = place
                self.goals[box] = node

    def wire_leaves(self):
        for box, goal in self.goals.items():
            if box < goal:
                self.work.link(self.leaf_place[box], self.leaf_place[goal], 0)


def net_of_trees(ends, listings, loops):
    """The open net whose trees these are, none of their leaves a ring."""
    planter = TreePlanter(ends)
    for at, listing in enumerate(listings):
        planter.plant(at, listing)
    planter.wire_leaves()
    wiring = planter.work
    wiring.circles = loops
    return net_of_wiring(wiring)
