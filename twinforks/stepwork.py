"""What steps do to the wiring of an open net."""

from twinforks.nets import place_names
from twinforks.orders import cell_order
from twinforks.papertexts import is_step_form
from twinforks.wirings import GONE

OTHER_KIND = {"x": "y", "y": "x"}


class StepWork:
    """Does steps on a wiring, which stays that of an open net, and remembers what leads back from the last one."""

    def __init__(self, wiring):
        self.work = wiring
        self.back_step = ()

    def order(self):
        return cell_order(self.work)[0]

    def cell_behind(self, place):
        """The cell to whose back the wire at a place leads, None if it leads to no back."""
        mate = self.work.mates[place]
        return self.work.cell_at(mate) if self.work.is_back(mate) else None

    def kind_behind(self, place):
        """The kind of this cell, "" without one."""
        cell = self.cell_behind(place)
        return "" if cell is None else self.work.kinds[cell]

    def is_fork(self, cell):
        return self.work.kinds[cell] in OTHER_KIND

    def leg_places(self, cell):
        back = self.work.back_of(cell)
        return [back + 1, back + 2]

    def can_grow(self, place):
        """Whether neither of the places of a wire is a fork's back."""
        mate = self.work.mates[place]
        for one in (place, mate):
            if self.work.is_back(one) and self.is_fork(self.work.cell_at(one)):
                return False
        return True

    def grow(self, place, kind):
        """Puts forks, or a fork and two stops, on the wire at a place."""
        mate = self.work.mates[place]
        for one, other in ((place, mate), (mate, place)):
            if self.work.is_back(one):
                self.grow_at_stop(self.work.cell_at(one), other, kind)
                return
        backs = [self.work.grow(kind, 0), self.work.grow(kind, 0)]
        for leg in (1, 2):
            self.work.link(backs[0] + leg, backs[1] + leg, 0)
        self.work.link(place, backs[0], 0)
        self.work.link(mate, backs[1], 0)
        self.back_step = ("shrink", [self.work.cell_at(back) for back in backs])

    def grow_at_stop(self, stop, place, kind):
        """Puts a fork with two stops in the place of a stop, which stays as the first one."""
        back = self.work.grow(kind, 0)
        self.work.link(place, back, 0)
        self.work.link(back + 1, self.work.back_of(stop), 0)
        self.work.link(back + 2, self.work.grow("stop", 0), 0)
        self.back_step = ("shrink", [self.work.cell_at(back)])

    def partner_fork(self, cell):
        """The fork of the same kind that has its legs wired to this fork's, leg 0 to leg 0, None without one."""
        mates = [self.work.mates[place] for place in self.leg_places(cell)]
        if self.work.is_end(mates[0]):
            return None
        other = self.work.cell_at(mates[0])
        if mates != self.leg_places(other) or self.work.kinds[other] != self.work.kinds[cell]:
            return None
        return other

    def has_stops(self, cell):
        return [self.kind_behind(place) for place in self.leg_places(cell)] == ["stop", "stop"]

    def can_shrink(self, cell):
        return self.is_fork(cell) and (self.has_stops(cell) or self.partner_fork(cell) is not None)

    def shrink(self, cell):
        """Takes a fork away, with its two stops or with the fork to which its legs are wired."""
        place = self.work.mates[self.work.back_of(cell)]
        self.back_step = ("grow", self.work.kinds[cell], place)
        if self.has_stops(cell):
            stops = [self.cell_behind(leg) for leg in self.leg_places(cell)]
            self.work.kinds[stops[1]] = GONE
            self.work.link(place, self.work.back_of(stops[0]), 0)
        else:
            other = self.partner_fork(cell)
            self.work.kinds[other] = GONE
            self.work.link(place, self.work.mates[self.work.back_of(other)], 0)
        self.work.kinds[cell] = GONE

    def can_turn(self, cell):
        if not self.is_fork(cell):
            return False
        wanted = OTHER_KIND[self.work.kinds[cell]]
        return [self.kind_behind(place) for place in self.leg_places(cell)] == [wanted, wanted]

    def turn(self, cell):
        """Lets a fork and the two on its legs change their kinds, leg 1 of the first one for leg 0 of the second."""
        own = self.work.kinds[cell]
        upper = [self.cell_behind(place) for place in self.leg_places(cell)]
        self.work.kinds[cell] = OTHER_KIND[own]
        for one in upper:
            self.work.kinds[one] = own
        one = self.leg_places(upper[0])[1]
        other = self.leg_places(upper[1])[0]
        one_mate = self.work.mates[one]
        other_mate = self.work.mates[other]
        if one_mate != other:
            self.work.link(one, other_mate, 0)
            self.work.link(other, one_mate, 0)
        self.back_step = ("turn", [cell])

    def do_one(self, thing):
        """Does any object if it is a step that can be done, and tells whether it is."""
        if not is_step_form(thing):
            return False
        if thing[0] == "grow":
            return self.do_grow(thing[1], thing[2])
        if thing[0] in ("shrink", "turn"):
            return self.do_at(thing[0], thing[1])
        return self.do_loop(thing[0])

    def do_loop(self, word):
        """One loop more, or one fewer, if there is one."""
        wiring = self.work
        if word == "loop":
            wiring.circles += 1
            self.back_step = ("unloop",)
            return True
        if wiring.circles == 0:
            return False
        wiring.circles -= 1
        self.back_step = ("loop",)
        return True

    def do_grow(self, kind, wire):
        names = place_names(self.work, self.order())
        if wire not in names or not self.can_grow(names.index(wire)):
            return False
        self.grow(names.index(wire), kind)
        return True

    def do_at(self, word, index):
        """Shrinks or turns the fork of an index, if that can be done."""
        order = self.order()
        if index >= len(order):
            return False
        can = self.can_shrink(order[index]) if word == "shrink" else self.can_turn(order[index])
        if can and word == "shrink":
            self.shrink(order[index])
        elif can:
            self.turn(order[index])
        return can

    def wire_name(self, place):
        """The name of the wire at a place, the first end's between two ends."""
        return place_names(self.work, self.order())[min(place, self.work.mates[place])]

    def step_back(self):
        """The step that leads back from the last one."""
        if self.back_step[0] == "grow":
            return "grow", self.back_step[1], self.wire_name(self.back_step[2])
        if len(self.back_step) == 1:
            return self.back_step
        order = self.order()
        return self.back_step[0], min([order.index(cell) for cell in self.back_step[1]])
