"""Nets at rest."""

from twinforks.courses import many_of_each
from twinforks.errors import BadChoice
from twinforks.meetings import is_meeting, sort_of_cells
from twinforks.meets import meet
from twinforks.nets import check_net, net_of_wiring
from twinforks.orders import cell_order
from twinforks.things import check_most


def rested(net, most):
    """As met_out, of what should be a net and a number."""
    check_net(net)
    check_most(most)
    return met_out(net, most)


def met_out(net, most):
    """The pair of the wiring at rest and of the sorts of the meetings done, None if there are more than most; as many
    as it takes where most is None.
    """
    wiring = net.wiring()
    sorts = []
    while len(wiring.ready) > 0:
        if most is not None and len(sorts) == most:
            return None
        one, other = wiring.ready.pop()
        sorts.append(sort_of_cells(wiring, one, other))
        meet(wiring, one, other)
    return wiring, sorts


def course_to_rest(net, most):
    """As met_out, the pair of the wiring at rest and of the course that leads there."""
    wiring = net.wiring()
    course = []
    while len(wiring.ready) > 0:
        if most is not None and len(course) == most:
            return None
        one, other = wiring.ready.pop()
        places = {cell: at for at, cell in enumerate(cell_order(wiring)[0])}
        course.append(tuple(sorted([places[one], places[other]])))
        meet(wiring, one, other)
    return wiring, course


def rest(net, most):
    """The pair of the net at rest and of the number of meetings, None if there are more than most."""
    found = rested(net, most)
    if found is None:
        return None
    return net_of_wiring(found[0]), len(found[1])


def rest_sorts(net, most):
    """How many meetings of each sort are done till rest, None if there are more than most."""
    found = rested(net, most)
    if found is None:
        return None
    return many_of_each(found[1])


def rest_by(net, choose, most):
    """The pair of the net at rest and of the course that a function chose, None if that is too long."""
    check_net(net)
    check_most(most)
    course = []
    while len(net.meeting_pairs()) > 0:
        if len(course) == most:
            return None
        chosen = choose(net.same_net(), net.meeting_pairs())
        if not is_meeting(net, chosen):
            raise BadChoice(chosen)
        # What was told may be filled anew at the next asking.
        pair = (chosen[0], chosen[1])
        course.append(pair)
        wiring = net.wiring()
        meet(wiring, pair[0], pair[1])
        net = net_of_wiring(wiring)
    return net, course
