"""Papers that an asker never ends."""

from twinforks.askers import asker_from
from twinforks.nets import check_net
from twinforks.things import check_most, is_list, is_number
from twinforks.trails import Trail
from twinforks.ways import is_passing

DEEDS = ("put", "take", "meet")


def are_passings(thing):
    return is_list(thing) and all([is_passing(passing, DEEDS) for passing in thing])


def is_form(net, thing):
    if not is_list(thing) or len(thing) != 3:
        return False
    if not is_number(thing[0]) or thing[0] >= len(net.cells()):
        return False
    return are_passings(thing[1]) and are_passings(thing[2]) and len(thing[2]) > 0


def meets_kind(trail, kind, first, last):
    """Whether a fork of a kind is met between two times."""
    kinds = trail.walker.work.kinds
    passings = trail.walker.passings[first:last]
    return any([passing[1] == "meet" and kinds[passing[0]] == kind for passing in passings])


def first_unlike_kind(trail, first, last):
    """The first kind whose pile does not go on for ever as between two times, None if both do."""
    for kind in ("x", "y"):
        if meets_kind(trail, kind, first, last):
            if trail.rows[kind][first] != trail.rows[kind][last]:
                return kind
        elif not trail.is_top_kept(kind, first, last):
            return kind
    return None


def asker_wrong(net, thing):
    """What is wrong with any object as an asker-paper, None if it is one."""
    check_net(net)
    if not is_form(net, thing):
        return ("form",)
    index, way, again = thing
    trail = Trail(asker_from(net.wiring(), index))
    at = trail.go_all([*way, *again])
    if at is not None:
        return "passing", at
    last = len(way) + len(again)
    if not trail.is_same_wire(len(way), last):
        return ("place",)
    kind = first_unlike_kind(trail, len(way), last)
    return None if kind is None else ("tops", kind)


def is_asker_paper(net, thing):
    """Whether any object is an asker-paper."""
    return asker_wrong(net, thing) is None


def first_round(trail):
    """The time since when an asker has gone round to where it is now, meeting a fork, None without one."""
    last = len(trail.been) - 1
    for first in range(last):
        met = any([passing[1] == "meet" for passing in trail.walker.passings[first:last]])
        if met and trail.is_same_wire(first, last) and first_unlike_kind(trail, first, last) is None:
            return first
    return None


def round_from(wiring, cell, most):
    """The pair of the way and the round of an asker from a cell, None if there are none of at most most passings."""
    left = [Trail(asker_from(wiring, cell))]
    while len(left) > 0:
        trail = left.pop()
        first = first_round(trail)
        if first is not None:
            passings = trail.walker.passings
            return passings[:first], passings[first:]
        if len(trail.walker.passings) < most:
            left.extend([trail.with_next(one) for one in reversed(trail.walker.next_ones())])
    return None


def never_rests(net, most):
    """An asker-paper whose round meets a fork, of at most most passings, None if there is none."""
    check_net(net)
    check_most(most)
    wiring = net.wiring()
    for cell in range(len(wiring.kinds)):
        found = round_from(wiring, cell, most)
        if found is not None:
            return cell, found[0], found[1]
    return None
