"""Askers: walkers that set out from a cell, away from its back, and meet a fork where they have nothing to take."""

from twinforks.piles import Pile
from twinforks.walking import Walker


class Asker(Walker):
    """An asker, with the kind of the cell that it set out from. It is stopped where it meets a stop, asks where it
    meets a fork.
    """

    def __init__(self, wiring, place, x, y, own_kind):
        Walker.__init__(self, wiring, place, x, y)
        self.own_kind = own_kind

    def twin(self):
        """Another one that is where this one is, no passings behind it."""
        x, y = [self.piles[kind].twin() for kind in ("x", "y")]
        return Asker(self.work, self.place, x, y, self.own_kind)

    def ways_on(self):
        """The two that go on where one meets a fork, none where that is of its own kind."""
        return [] if self.kind_here() == self.own_kind else self.both_by_legs("meet")

    def next_ones(self):
        """All that it may be one passing further on."""
        fare = self.fare()
        if fare == "on":
            one = self.twin()
            one.go_through()
            return [one]
        return self.ways_on() if fare == "asks" else []

    def go_as(self, passing):
        """As a walker, or on by a leg of a fork that it meets."""
        if self.fare() == "on":
            self.go_through()
            return self.passings[-1] == tuple(passing)
        if self.fare() != "asks" or self.kind_here() == self.own_kind:
            return False
        if (passing[0], passing[1]) != (self.work.cell_at(self.place), "meet"):
            return False
        self.leave_by("meet", passing[2])
        return True


def asker_from(wiring, cell):
    """The asker that sets out from a cell."""
    return Asker(wiring, wiring.mates[wiring.back_of(cell)], Pile([], None), Pile([], None), wiring.kinds[cell])
