"""What a cell tied to an end does: copying and shutting."""

from twinforks.errors import BadKind, BadNames, NotWithout
from twinforks.leaves import longer, open_grove
from twinforks.nets import check_net
from twinforks.plugging import assembled
from twinforks.things import are_names, is_pair
from twinforks.treenets import net_of_trees
from twinforks.walking import check_end


def check_kind(kind, kinds):
    if kind not in kinds:
        raise BadKind(kind)


def check_names(net, end, names):
    """Two unlike names, unlike the other ends."""
    if not is_pair(names) or not are_names(names) or names[0] == names[1]:
        raise BadNames(names)
    if any([name != end and name in net.ends() for name in names]):
        raise BadNames(names)


def shut_at(net, end):
    """The net in which an end's wire leads to a stop."""
    check_net(net)
    check_end(net, end)
    led = [(one, (0, one)) for one in net.ends() if one != end]
    return assembled([net], led, [("stop", (0, end))], [])


def forked_at(net, end, kind, names):
    """The net in which an end's wire leads to the back of a fork, whose legs lead to two ends."""
    check_net(net)
    check_end(net, end)
    check_kind(kind, ("x", "y"))
    check_names(net, end, names)
    led = []
    for one in net.ends():
        if one == end:
            led.extend([(names[0], (1, 0)), (names[1], (1, 1))])
        else:
            led.append((one, (0, one)))
    return assembled([net], led, [(kind, (0, end), (1, 0), (1, 1))], [])


def place_of(net, end):
    return net.ends().index(end)


def reached_count(grove, at, kind):
    """How many cells one of a kind, tied to an end, reaches, and wires both of whose leaves it reaches."""
    wiring = grove.work
    many = 0
    leaf_places = {}
    left = [at]
    while len(left) > 0:
        place = left.pop()
        back = wiring.mates[place]
        if not wiring.is_back(back):
            leaf_places[place] = True
            # The second one of two leaves finds the first one there.
            many += 1 if back in leaf_places else 0
        else:
            many += 1
            here = wiring.kinds[wiring.cell_at(back)]
            if here != "stop" and here != kind:
                left.extend([back + 1, back + 2])
    return many


def tied_count(net, end, kind):
    """The number of the cells and wires that a cell of a kind, tied to an end, reaches."""
    grove = open_grove(net)
    check_end(net, end)
    check_kind(kind, ("x", "y", "stop"))
    return reached_count(grove, place_of(net, end), kind)


def leads_to(node, end):
    """Whether what a listing tells is a leaf that leads to one of an end's tree."""
    return not isinstance(node, str) and node[0] == end


def without_end(net, end):
    """The net without an end and the cells of its tree."""
    grove = open_grove(net)
    check_end(net, end)
    ends = [one for one in net.ends() if one != end]
    listings = []
    for one in ends:
        nodes = grove.nodes(place_of(net, one))
        listings.append(["stop" if leads_to(node, end) else node for node in nodes])
    return net_of_trees(ends, listings, net.loops())


def forks_of_kind(grove, at, kind):
    """The cells of an end's tree that are forks of a kind, ascending."""
    return sorted([cell for cell in grove.forks_of(at) if grove.work.kinds[cell] == kind])


def is_without(net, end, kind):
    """Whether no fork of an end's tree is of a kind."""
    grove = open_grove(net)
    check_end(net, end)
    check_kind(kind, ("x", "y"))
    return len(forks_of_kind(grove, place_of(net, end), kind)) == 0


def copy_nodes(nodes, end, kind, name, figure):
    """The listing of one of the two copies of an end's tree."""
    told = []
    for node in nodes:
        if leads_to(node, end):
            told.append((name, node[1], node[2]))
        elif isinstance(node, str):
            told.append(node)
        else:
            # At the leaf of the other end's tree a fork of the kind stands, and a leg of it leads here.
            s, t = longer(node[1], node[2], kind, str(figure))
            told.append((node[0], s, t))
    return told


def forked_nodes(nodes, end, kind, names):
    """The listing of another end's tree, with forks that lead to both copies."""
    told = []
    for node in nodes:
        if leads_to(node, end):
            told.extend([kind, (names[0], node[1], node[2]), (names[1], node[1], node[2])])
        else:
            told.append(node)
    return told


def copied(net, end, kind, names):
    """The net with two copies of an end's tree, which has no fork of the kind."""
    grove = open_grove(net)
    check_end(net, end)
    check_kind(kind, ("x", "y"))
    check_names(net, end, names)
    forks = forks_of_kind(grove, place_of(net, end), kind)
    if len(forks) > 0:
        raise NotWithout(forks[0])
    ends = []
    listings = []
    for at, one in enumerate(net.ends()):
        if one == end:
            for figure, name in enumerate(names):
                ends.append(name)
                listings.append(copy_nodes(grove.nodes(at), end, kind, name, figure))
        else:
            ends.append(one)
            listings.append(forked_nodes(grove.nodes(at), end, kind, names))
    return net_of_trees(ends, listings, net.loops())
