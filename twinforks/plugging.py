"""Nets plugged into one another, closed, their ends renamed and reordered."""

from twinforks.errors import BadEnds, BadNames, BadOther, BadTies, Meets
from twinforks.nets import Net, check_net, net_of_wiring
from twinforks.things import is_list, is_name, is_pair
from twinforks.wirings import wired


def assembled(nets, led, cells, ties):
    """The net made of nets and of cells more. A net's wire is called by the pair of the net's index and its own name
    there; led are pairs of an end and the wire to which it leads, ties pairs of wires that are joined.
    """
    rows = list(cells)
    joined = [*led, *ties]
    loops = 0
    for at, net in enumerate(nets):
        for cell in net.cells():
            rows.append((cell[0], *[(at, name) for name in cell[1:]]))
        joined.extend([((at, one), (at, other)) for one, other in net.joins()])
        loops += net.loops()
    wiring = wired([end for end, _ in led], rows, joined)
    wiring.circles += loops
    return net_of_wiring(wiring)


def is_end_of(net, thing):
    return isinstance(thing, str) and thing in net.ends()


def first_no_tie(net, other, ties):
    """The index of the first thing that is no pair of an end of each net, or has one that is tied, None without one."""
    if not is_list(ties):
        return 0
    tied = {}
    for at, tie in enumerate(ties):
        if not is_pair(tie) or not is_end_of(net, tie[0]) or not is_end_of(other, tie[1]):
            return at
        if (0, tie[0]) in tied or (1, tie[1]) in tied:
            return at
        tied[(0, tie[0])] = True
        tied[(1, tie[1])] = True
    return None


def check_no_meets(names):
    """No name may stand twice among the ends."""
    for name in sorted(names):
        if names.count(name) > 1:
            raise Meets(name)


def plugged(net, other, ties):
    """The net in which ends of one net are joined with ends of another."""
    check_net(net)
    if not isinstance(other, Net):
        raise BadOther(other)
    at = first_no_tie(net, other, ties)
    if at is not None:
        raise BadTies(at)
    led = [(end, (0, end)) for end in net.ends() if end not in [tie[0] for tie in ties]]
    led.extend([(end, (1, end)) for end in other.ends() if end not in [tie[1] for tie in ties]])
    check_no_meets([end for end, _ in led])
    return assembled([net, other], led, [], [((0, one), (1, two)) for one, two in ties])


def first_no_closing(net, ties):
    """As first_no_tie, of pairs of unlike ends of one net, no end twice."""
    if not is_list(ties):
        return 0
    tied = {}
    for at, tie in enumerate(ties):
        if not is_pair(tie) or not is_end_of(net, tie[0]) or not is_end_of(net, tie[1]):
            return at
        if tie[0] == tie[1] or tie[0] in tied or tie[1] in tied:
            return at
        tied[tie[0]] = True
        tied[tie[1]] = True
    return None


def closed(net, ties):
    """The net in which pairs of its ends are joined."""
    check_net(net)
    at = first_no_closing(net, ties)
    if at is not None:
        raise BadTies(at)
    tied = [end for tie in ties for end in tie]
    led = [(end, (0, end)) for end in net.ends() if end not in tied]
    return assembled([net], led, [], [((0, one), (0, two)) for one, two in ties])


def is_naming(net, names):
    """Whether any object is a dict from just all ends to unlike names."""
    if not isinstance(names, dict) or not all([end in names and is_name(names[end]) for end in net.ends()]):
        return False
    # Fewer of these than names are: two are alike, or one is no end's.
    return len({names[end]: True for end in net.ends()}) == len(names)


def renamed(net, names):
    """The net with other names of its ends."""
    check_net(net)
    if not is_naming(net, names):
        raise BadNames(names)
    return assembled([net], [(names[end], (0, end)) for end in net.ends()], [], [])


def first_out_of_order(net, ends):
    """The index of the first thing that is no end of the net or stood ahead, how many there are if some lack, None if
    these are all ends.
    """
    if not is_list(ends):
        return 0
    for at, end in enumerate(ends):
        if not is_end_of(net, end) or end in ends[:at]:
            return at
    return None if len(ends) == len(net.ends()) else len(ends)


def reordered(net, ends):
    """The net with its ends in another order."""
    check_net(net)
    at = first_out_of_order(net, ends)
    if at is not None:
        raise BadEnds(at)
    return assembled([net], [(end, (0, end)) for end in ends], [], [])
