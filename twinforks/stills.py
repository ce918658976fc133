"""Still nets: trees, the pairs of their leaves, what is shut."""

from twinforks.endless import check_figures
from twinforks.forms import box_of, signs_of
from twinforks.leaves import grove_of
from twinforks.nets import check_net
from twinforks.treenets import net_of_trees, tree_told
from twinforks.walking import check_end


def is_still(net):
    """Whether no cells of a net meet."""
    check_net(net)
    return len(net.meeting_pairs()) == 0


def inner(net):
    """The indexes of the cells that stand in no tree."""
    return grove_of(net).outside()


def is_open(net):
    """Whether a net is still and each of its cells stands in a tree."""
    return is_still(net) and len(inner(net)) == 0


def trees(net):
    """The trees of all ends."""
    grove = grove_of(net)
    return [tree_told(grove.nodes(at)) for at in range(len(grove.listings))]


def pairs(net):
    """The pairs of the boxes of leaves that lead to one another."""
    grove = grove_of(net)
    told = []
    for leaf, box in enumerate(grove.boxes):
        other = grove.partner(leaf)
        if other is not None:
            told.append((box_of(box), box_of(grove.boxes[other])))
    return told


def shut(net):
    """The boxes of all leaves that lead to no leaf."""
    grove = grove_of(net)
    return [box_of(box) for leaf, box in enumerate(grove.boxes) if grove.partner(leaf) is None]


def cut_or_leaf(grove, end, s, t):
    """Goes down an end's tree by figures: the kind of the fork that it can't pass, or the number of the leaf."""
    wiring = grove.work
    place = wiring.names.index(end)
    rows = {"x": s, "y": t}
    while place not in grove.leaf_at:
        back = wiring.mates[place]
        kind = wiring.kinds[wiring.cell_at(back)]
        if rows[kind] == "":
            return kind
        place = back + 1 + int(rows[kind][0])
        rows[kind] = rows[kind][1:]
    return grove.leaf_at[place]


def box_at(net, end, s, t):
    """Where one comes to down an end's tree by two rows' figures."""
    grove = grove_of(net)
    check_end(net, end)
    check_figures(s)
    check_figures(t)
    found = cut_or_leaf(grove, end, signs_of(s), signs_of(t))
    if found in ("x", "y"):
        return "cut", found
    goal = grove.goal(found, signs_of(s), signs_of(t))
    return "leaf", box_of(grove.boxes[found]), (None if goal is None else box_of(goal))


def opened(net):
    """The open net that is left without the cells that stand in no tree."""
    grove = grove_of(net)
    listings = []
    for at in range(len(grove.listings)):
        listings.append(["stop" if node == "ring" else node for node in grove.nodes(at)])
    return net_of_trees(net.ends(), listings, net.loops())
