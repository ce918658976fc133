"""Ways, the passings of walks: gone back, and judged."""

from twinforks.errors import BadWay
from twinforks.forms import is_figure
from twinforks.nets import check_net
from twinforks.things import is_list, is_number
from twinforks.walking import box_walker, check_box


def is_passing(thing, deeds):
    """Whether any object is a passing by its form, with one of these deeds."""
    if not is_list(thing) or len(thing) != 3:
        return False
    return is_number(thing[0]) and isinstance(thing[1], str) and thing[1] in deeds and is_figure(thing[2])


def is_way_form(thing):
    """Whether any object is a way by its form."""
    return is_list(thing) and all([is_passing(passing, ("put", "take")) for passing in thing])


def way_back(way):
    """The passings that undo a way's, the last one first."""
    if not is_way_form(way):
        raise BadWay(way)
    back = []
    for index, deed, figure in reversed(way):
        back.append((index, "put" if deed == "take" else "take", figure))
    return back


def first_other_passing(walker, way):
    """Lets a walker go a way; the index of the first passing that is not its next one, None if it goes all."""
    for at, passing in enumerate(way):
        if not walker.go_as(passing):
            return at
    return None


def way_wrong(net, box, thing):
    """What is wrong with any object as the way of a box's walker, None if it is that."""
    check_net(net)
    check_box(net, box)
    if not is_way_form(thing):
        return ("form",)
    walker = box_walker(net, box)
    at = first_other_passing(walker, thing)
    if at is not None:
        return "passing", at
    if walker.fare() not in ("out", "stopped"):
        return ("end",)
    return None


def is_way(net, box, thing):
    """Whether any object is the way of a box's walker."""
    return way_wrong(net, box, thing) is None
