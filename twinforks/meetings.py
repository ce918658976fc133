"""Meetings of a net's cells."""

from twinforks.errors import BadPair
from twinforks.meets import meet
from twinforks.nets import check_net, net_of_wiring
from twinforks.things import is_number, is_pair


def is_meeting(net, thing):
    """Whether any object is a meeting of what is known to be a net."""
    return is_pair_of_numbers(thing) and (thing[0], thing[1]) in net.meeting_pairs()


def is_pair_of_numbers(thing):
    return is_pair(thing) and is_number(thing[0]) and is_number(thing[1])


def check_pair(net, pair):
    if not is_meeting(net, pair):
        raise BadPair(pair)


def meetings(net):
    """The list of a net's meetings."""
    check_net(net)
    return net.meeting_pairs()


def sort_of_cells(wiring, one, other):
    """The sort of the meeting of two cells."""
    return tuple(sorted([wiring.kinds[one], wiring.kinds[other]]))


def sort_of(net, pair):
    """The pair of the kinds of a meeting's cells."""
    check_net(net)
    check_pair(net, pair)
    return sort_of_cells(net.wiring(), pair[0], pair[1])


def met(net, pair):
    """The net behind a meeting."""
    check_net(net)
    check_pair(net, pair)
    wiring = net.wiring()
    meet(wiring, pair[0], pair[1])
    return net_of_wiring(wiring)
