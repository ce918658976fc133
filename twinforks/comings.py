"""Nets that come round to themselves."""

from twinforks.courses import CourseWork
from twinforks.meetings import met
from twinforks.nets import check_net, net_of_wiring
from twinforks.things import check_most, is_list, is_pair


def is_form(thing):
    return is_pair(thing) and is_list(thing[0]) and is_list(thing[1]) and len(thing[1]) > 0


def coming_round_wrong(net, thing):
    """What is wrong with any object as a coming round, None if it is one."""
    check_net(net)
    if not is_form(thing):
        return ("form",)
    work = CourseWork(net.wiring())
    at = work.first_wrong(thing[0], True)
    if at is not None:
        return "meeting", at
    ahead = net_of_wiring(work.work)
    at = work.first_wrong(thing[1], True)
    if at is not None:
        return "meeting", len(thing[0]) + at
    if not ahead.is_but_loops(net_of_wiring(work.work)):
        return ("end",)
    return None


def is_coming_round(net, thing):
    """Whether any object is a coming round."""
    return coming_round_wrong(net, thing) is None


def first_alike(nets, net):
    """The index of the first one of nets that is this one but for loops, None without one."""
    for at, ahead in enumerate(nets):
        if ahead.is_but_loops(net):
            return at
    return None


def coming_round(net, most):
    """The coming round by first meetings, of at most so many, None if there is none."""
    check_net(net)
    check_most(most)
    nets = [net]
    course = []
    lot = net.meeting_pairs()
    while len(lot) > 0 and len(course) < most:
        course.append(lot[0])
        net = met(net, lot[0])
        at = first_alike(nets, net)
        if at is not None:
            return course[:at], course[at:]
        nets.append(net)
        lot = net.meeting_pairs()
    return None
