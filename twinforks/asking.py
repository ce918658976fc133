"""Walkers that know nothing and ask."""

from twinforks.forms import signed_box
from twinforks.nets import check_net
from twinforks.piles import Pile
from twinforks.things import check_most
from twinforks.treenets import net_of_trees, tree_told
from twinforks.walking import Walker, check_end, spread_out


def node_of(walker):
    """What a tree's listing has where a walker has come to."""
    fare = walker.fare()
    if fare == "asks":
        return walker.kind_here()
    return signed_box(walker.box_here()) if fare == "out" else "stop"


def asked_listing(wiring, at, most):
    """The listing of all that is asked from an end on, None if it takes more than most passings."""
    found = spread_out(Walker(wiring, wiring.mates[at], Pile([], None), Pile([], None)), most)
    if found is None:
        return None
    return [node_of(walker) for walker in found]


def asked(net, end, most):
    """The tree of all that a walker asks from an end on, None if it has more than most passings."""
    check_net(net)
    check_end(net, end)
    check_most(most)
    listing = asked_listing(net.wiring(), net.ends().index(end), most)
    if listing is None:
        return None
    return tree_told(listing)


def drawn(net, most):
    """The open net whose trees are what is asked from the ends on, None if a tree has more than most passings."""
    check_net(net)
    check_most(most)
    wiring = net.wiring()
    listings = []
    for at in range(len(wiring.names)):
        listing = asked_listing(wiring, at, most)
        if listing is None:
            return None
        listings.append(listing)
    return net_of_trees(net.ends(), listings, 0)
