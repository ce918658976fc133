"""Surroundings: forks and stops that lead two boxes of a net out."""

from twinforks.errors import BadBox, BadSurroundings
from twinforks.forms import boxes_apart, is_box_at
from twinforks.leaves import Grove
from twinforks.nets import Net, check_net, net_of_wiring
from twinforks.plugging import plugged
from twinforks.resting import met_out
from twinforks.stills import is_open
from twinforks.tables import net_of
from twinforks.things import check_ends, check_most


def leads_two_out(net, many):
    """Whether the two ends of an open net behind so many lead to leaves of trees of these, and nothing else does."""
    grove = Grove(net.wiring())
    outer = net.ends()[many:]
    led = [leaf for leaf in range(len(grove.boxes)) if grove.partner(leaf) is not None]
    if len(led) != 4:
        return False
    for at in (many, many + 1):
        leaves = [leaf for leaf in grove.leaves_at(at) if leaf in led]
        if len(grove.listings[at]) != 1 or len(leaves) != 1:
            return False
        if grove.boxes[grove.partner(leaves[0])][0] in outer:
            return False
    return True


def is_surroundings_of(ends, thing):
    """As is_surroundings, of ends that are known to be ends."""
    if not isinstance(thing, Net) or not is_open(thing) or thing.loops() > 0:
        return False
    if len(thing.ends()) != len(ends) + 2 or thing.ends()[:len(ends)] != list(ends):
        return False
    return leads_two_out(thing, len(ends))


def is_surroundings(ends, thing):
    """Whether any object is surroundings of ends."""
    check_ends(ends)
    return is_surroundings_of(ends, thing)


def outer_names(ends):
    """The names of the two ends more."""
    names = ["in", "out"]
    number = 0
    while names[0] in ends or names[1] in ends:
        number += 1
        names = [f"in{number}", f"out{number}"]
    return names


def lead(ends, one, other, shut):
    """The surroundings that lead out two boxes, with boxes that are stopped."""
    check_ends(ends)
    if not is_box_at(ends, one):
        raise BadBox(one)
    if not is_box_at(ends, other) or not boxes_apart(one, other):
        raise BadBox(other)
    names = outer_names(ends)
    table = [(one, (names[0], [], [])), (other, (names[1], [], []))]
    return net_of([*ends, *names], table, shut)


def check_surroundings(net, surroundings):
    if not is_surroundings_of(net.ends(), surroundings):
        raise BadSurroundings(surroundings)


def surrounded(net, surroundings):
    """Any net within surroundings of its ends."""
    check_net(net)
    check_surroundings(net, surroundings)
    return plugged(net, surroundings, [(end, end) for end in net.ends()])


def fare_within(net, surroundings, most):
    """As fares, of what is known to be right; by however many meetings where most is None."""
    found = met_out(surrounded(net, surroundings), most)
    if found is None:
        return None
    return fare_of(net_of_wiring(found[0]))


def fare_of(behind):
    """What a net with two ends is, loops aside: "wire", "stops", "else"."""
    ends = behind.ends()
    if len(behind.cells()) == 0:
        return "wire"
    if behind.cells() == [("stop", ends[0]), ("stop", ends[1])]:
        return "stops"
    return "else"


def fares(net, surroundings, most):
    """What a net within surroundings comes to, None if that takes more than most meetings."""
    check_net(net)
    check_surroundings(net, surroundings)
    check_most(most)
    return fare_within(net, surroundings, most)
