"""Walkers with two piles."""

from twinforks.errors import BadBox, BadEnd
from twinforks.forms import check_endless, is_box_at
from twinforks.nets import check_net
from twinforks.piles import Pile
from twinforks.things import check_most


class Walker:
    """One that has been sent in at an end, and the passings behind it."""

    def __init__(self, net, end, x, y):
        self.work = net.wiring()
        self.piles = {"x": x, "y": y}
        self.place = self.work.mates[self.work.names.index(end)]
        self.passings = []

    def fare(self):
        """How it is where it is: "out", "stopped", "asks", or "on" if it can pass."""
        if self.work.is_end(self.place):
            return "out"
        if self.work.leg_at(self.place) > 0:
            return "on"
        if self.kind_here() == "stop":
            return "stopped"
        return "on" if self.piles[self.kind_here()].has_top() else "asks"

    def kind_here(self):
        """The kind of the cell that it has come to."""
        return self.work.kinds[self.work.cell_at(self.place)]

    def go_through(self):
        """Passes the fork that it has come to."""
        cell = self.work.cell_at(self.place)
        pile = self.piles[self.kind_here()]
        leg = self.work.leg_at(self.place)
        if leg == 0:
            figure = pile.take_figure()
            self.passings.append((cell, "take", figure))
            self.place = self.work.mates[self.place + 1 + figure]
        else:
            pile.put_figure(leg - 1)
            self.passings.append((cell, "put", leg - 1))
            self.place = self.work.mates[self.place - leg]

    def go_far(self, most):
        """Goes as far as it can with at most so many passings; tells how it is there."""
        fare = self.fare()
        while fare == "on" and len(self.passings) < most:
            self.go_through()
            fare = self.fare()
        return fare

    def end_here(self):
        """The end at which it has come out."""
        return self.work.names[self.place]


def check_end(net, end):
    if not isinstance(end, str) or end not in net.ends():
        raise BadEnd(end)


def sent(net, end, x, y, most):
    """The walker at an address, ready to go."""
    check_net(net)
    check_end(net, end)
    check_endless(x)
    check_endless(y)
    check_most(most)
    return Walker(net, end, Pile([], x), Pile([], y))


def walk(net, end, x, y, most):
    """Where a walker comes out, with which piles, or that it is stopped, None if it is still under way."""
    walker = sent(net, end, x, y, most)
    fare = walker.go_far(most)
    if fare == "on":
        return None
    if fare == "stopped":
        return fare, len(walker.passings)
    return fare, walker.end_here(), walker.piles["x"].whole(), walker.piles["y"].whole(), len(walker.passings)


def way(net, end, x, y, most):
    """The passings of a walk, None if it is still under way."""
    walker = sent(net, end, x, y, most)
    if walker.go_far(most) == "on":
        return None
    return list(walker.passings)


def box_walked(net, box, most):
    """How a walker fares of whose piles a box's figures alone are known, None if it is still under way."""
    check_net(net)
    if not is_box_at(net.ends(), box):
        raise BadBox(box)
    check_most(most)
    walker = Walker(net, box[0], Pile(box[1], None), Pile(box[2], None))
    fare = walker.go_far(most)
    if fare == "on":
        return None
    if fare == "asks":
        return fare, walker.kind_here()
    if fare == "stopped":
        return (fare,)
    return fare, (walker.end_here(), walker.piles["x"].known_row(), walker.piles["y"].known_row())
