"""Walkers with two piles."""

from twinforks.errors import BadBox, BadEnd
from twinforks.forms import check_endless, is_box_at
from twinforks.nets import check_net
from twinforks.piles import Pile
from twinforks.things import check_most


class Walker:
    """One that has come along a wire to a place of a net, with two piles, and the passings behind it."""

    def __init__(self, wiring, place, x, y):
        self.work = wiring
        self.piles = {"x": x, "y": y}
        self.place = place
        self.passings = []

    def twin(self):
        """Another one that is where this one is, no passings behind it."""
        return Walker(self.work, self.place, self.piles["x"].twin(), self.piles["y"].twin())

    def fare(self):
        """How it is where it is: "out", "stopped", "asks", or "on" if it can pass."""
        if self.work.is_end(self.place):
            return "out"
        if self.work.leg_at(self.place) > 0:
            return "on"
        if self.kind_here() == "stop":
            return "stopped"
        return "on" if self.piles[self.kind_here()].has_top() else "asks"

    def kind_here(self):
        """The kind of the cell that it has come to."""
        return self.work.kinds[self.work.cell_at(self.place)]

    def go_through(self):
        """Passes the fork that it has come to."""
        pile = self.piles[self.kind_here()]
        leg = self.work.leg_at(self.place)
        if leg == 0:
            self.leave_by("take", pile.take_figure())
        else:
            pile.put_figure(leg - 1)
            self.passings.append((self.work.cell_at(self.place), "put", leg - 1))
            self.place = self.work.mates[self.place - leg]

    def leave_by(self, deed, figure):
        """Goes on from a fork's back by the leg of a figure, whatever is known of the piles."""
        self.passings.append((self.work.cell_at(self.place), deed, figure))
        self.place = self.work.mates[self.place + 1 + figure]

    def both_by_legs(self, deed):
        """Two others that have gone on from a fork's back, one by each leg."""
        both = [self.twin(), self.twin()]
        for figure, one in enumerate(both):
            one.leave_by(deed, figure)
        return both

    def ways_on(self):
        """The two that go on where one asks."""
        return self.both_by_legs("take")

    def go_as(self, passing):
        """Goes on, if it can; whether its next passing is this one."""
        if self.fare() != "on":
            return False
        self.go_through()
        return self.passings[-1] == tuple(passing)

    def go_far(self, most):
        """Goes as far as it can with at most so many passings; tells how it is there."""
        fare = self.fare()
        while fare == "on" and len(self.passings) < most:
            self.go_through()
            fare = self.fare()
        return fare

    def end_here(self):
        """The end at which it has come out."""
        return self.work.names[self.place]

    def box_here(self):
        """The end at which it has come out, with what is known of its piles."""
        return self.end_here(), self.piles["x"].known_row(), self.piles["y"].known_row()


def spread_out(first, most):
    """A walker, and all that it goes on as where it asks, each gone as far as it can: one that asks ahead of those
    behind its asking, by leg 0 ahead of by leg 1. None if all have more than most passings.
    """
    found = []
    spent = 0
    left = [first]
    while len(left) > 0:
        walker = left.pop()
        fare = walker.go_far(most - spent)
        spent += len(walker.passings)
        if fare == "on" or spent > most:
            return None
        found.append(walker)
        if fare == "asks":
            left.extend(walker.ways_on()[::-1])
    return found


def walker_at(net, end, x, y):
    """A walker that has been sent in at an end."""
    wiring = net.wiring()
    return Walker(wiring, wiring.mates[wiring.names.index(end)], x, y)


def box_walker(net, box):
    """The walker of a box, of whose piles just the box's figures are known."""
    return walker_at(net, box[0], Pile(box[1], None), Pile(box[2], None))


def check_box(net, box):
    if not is_box_at(net.ends(), box):
        raise BadBox(box)


def check_end(net, end):
    if not isinstance(end, str) or end not in net.ends():
        raise BadEnd(end)


def sent(net, end, x, y, most):
    """The walker at an address, ready to go."""
    check_net(net)
    check_end(net, end)
    check_endless(x)
    check_endless(y)
    check_most(most)
    return walker_at(net, end, Pile([], x), Pile([], y))


def walk(net, end, x, y, most):
    """Where a walker comes out, with which piles, or that it is stopped, None if it is still under way."""
    walker = sent(net, end, x, y, most)
    fare = walker.go_far(most)
    if fare == "on":
        return None
    if fare == "stopped":
        return fare, len(walker.passings)
    return fare, walker.end_here(), walker.piles["x"].whole(), walker.piles["y"].whole(), len(walker.passings)


def way(net, end, x, y, most):
    """The passings of a walk, None if it is still under way."""
    walker = sent(net, end, x, y, most)
    if walker.go_far(most) == "on":
        return None
    return list(walker.passings)


def box_walked(net, box, most):
    """How a walker fares of whose piles a box's figures alone are known, None if it is still under way."""
    check_net(net)
    check_box(net, box)
    check_most(most)
    walker = box_walker(net, box)
    fare = walker.go_far(most)
    if fare == "on":
        return None
    if fare == "asks":
        return fare, walker.kind_here()
    if fare == "stopped":
        return (fare,)
    return fare, walker.box_here()
