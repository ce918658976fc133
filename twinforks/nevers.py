"""Papers that a walker never comes out."""

from twinforks.endless import tops
from twinforks.forms import is_box_at
from twinforks.nets import check_net
from twinforks.piles import Pile
from twinforks.things import is_list
from twinforks.trails import Trail
from twinforks.walking import box_walker, sent, walker_at
from twinforks.ways import is_way_form


def is_form(net, thing):
    if not is_list(thing) or len(thing) != 3 or not is_box_at(net.ends(), thing[0]):
        return False
    return is_way_form(thing[1]) and is_way_form(thing[2]) and len(thing[2]) > 0


def goes_round(trail, first, last):
    """Whether a walker that has come from one time to another goes so again and again."""
    if not trail.is_same_wire(first, last):
        return False
    return trail.is_top_kept("x", first, last) and trail.is_top_kept("y", first, last)


def never_wrong(net, thing):
    """What is wrong with any object as a never-paper, None if it is one."""
    check_net(net)
    if not is_form(net, thing):
        return ("form",)
    box, way, again = thing
    trail = Trail(box_walker(net, box))
    at = trail.go_all([*way, *again])
    if at is not None:
        return "passing", at
    last = len(way) + len(again)
    if not trail.is_same_wire(len(way), last):
        return ("place",)
    return None if goes_round(trail, len(way), last) else ("tops",)


def is_never(net, thing):
    """Whether any object is a never-paper."""
    return never_wrong(net, thing) is None


def first_round(trail):
    """The first time at which a walker has gone round, told behind the time since when; None without one."""
    for last in range(len(trail.been)):
        for first in range(last):
            if goes_round(trail, first, last):
                return first, last
    return None


def never_paper(net, end, x, y, most):
    """A never-paper of at most most passings for a box of an address, None if there is none."""
    walker = sent(net, end, x, y, most)
    if walker.go_far(most) != "on":
        return None
    # Sent again with just the figures that were taken, it asks for nothing.
    known = {"x": tops(x, walker.piles["x"].gone), "y": tops(y, walker.piles["y"].gone)}
    trail = Trail(walker_at(net, end, Pile(known["x"], None), Pile(known["y"], None)))
    trail.go_on(most)
    found = first_round(trail)
    if found is None:
        return None
    first, last = found
    for kind in ("x", "y"):
        left = min([len(row) for row in trail.rows[kind][:last + 1]])
        known[kind] = known[kind][:len(known[kind]) - left]
    passings = trail.walker.passings
    return (end, known["x"], known["y"]), passings[:first], passings[first:last]
