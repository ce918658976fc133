"""Meetings done all at once, and schedules of them."""

from twinforks.errors import BadLot
from twinforks.meetings import is_pair_of_numbers
from twinforks.meets import meet
from twinforks.nets import check_net, net_of_wiring
from twinforks.things import check_most, is_list


def first_no_meeting(net, thing):
    """The index of the first thing in what should be a lot that is no meeting or stood ahead, None in a lot."""
    if not is_list(thing) or len(thing) == 0:
        return 0
    left = {pair: True for pair in net.meeting_pairs()}
    for at, pair in enumerate(thing):
        if not is_pair_of_numbers(pair) or (pair[0], pair[1]) not in left:
            return at
        del left[(pair[0], pair[1])]
    return None


def behind_all(net, lot):
    """The net behind a lot's meetings; they share no cell, so none bars another."""
    wiring = net.wiring()
    for pair in lot:
        meet(wiring, pair[0], pair[1])
    return net_of_wiring(wiring)


def some_at_once(net, lot):
    """The net behind all meetings of a lot."""
    check_net(net)
    at = first_no_meeting(net, lot)
    if at is not None:
        raise BadLot(at)
    return behind_all(net, lot)


def all_at_once(net):
    """The net behind all its meetings."""
    check_net(net)
    lot = net.meeting_pairs()
    if len(lot) == 0:
        return net
    return behind_all(net, lot)


def schedule(net, most):
    """The schedule that takes all meetings each time, None if these are more than most."""
    check_net(net)
    check_most(most)
    lots = []
    done = 0
    lot = net.meeting_pairs()
    while len(lot) > 0:
        done += len(lot)
        if done > most:
            return None
        lots.append(lot)
        net = behind_all(net, lot)
        lot = net.meeting_pairs()
    return lots


def schedule_wrong(net, thing):
    """What is wrong with any object as a schedule, None if it is one."""
    check_net(net)
    if not is_list(thing):
        return ("form",)
    for at, lot in enumerate(thing):
        if first_no_meeting(net, lot) is not None:
            return "lot", at
        net = behind_all(net, lot)
    if len(net.meeting_pairs()) > 0:
        return ("end",)
    return None


def is_schedule(net, thing):
    """Whether any object is a schedule."""
    return schedule_wrong(net, thing) is None
