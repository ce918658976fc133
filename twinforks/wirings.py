"""Nets by numbers, for work that names would slow down."""

GONE = ""


class Wiring:
    """Ends and cells whose places are numbers, and for each place its mate, the other place of its wire.

    The places: one for each end, in order, then three for each cell, its back first, of which a
    stop leaves two unused. A cell that has gone leaves its numbers behind.
    """

    def __init__(self, names, kinds):
        self.names = list(names)
        self.kinds = []
        self.mates = [-1] * len(self.names)
        self.circles = 0
        # Pairs of cells that meet; each is put here when its wire comes about, so nobody has to look for them.
        self.ready = []
        # What a later meeting hangs on: how deep the meeting is that made a cell, the deepest one that joined
        # the wire at a place, 0 for none.
        self.made = []
        self.joined = [0] * len(self.names)
        for kind in kinds:
            self.grow(kind, 0)

    def grow(self, kind, depth):
        """One more cell, made by a meeting so deep; tells the place of its back."""
        self.kinds.append(kind)
        self.made.append(depth)
        self.mates.extend([-1, -1, -1])
        self.joined.extend([0, 0, 0])
        return len(self.mates) - 3

    def back_of(self, cell):
        return len(self.names) + 3 * cell

    def cell_at(self, place):
        return (place - len(self.names)) // 3

    def leg_at(self, place):
        """0 for a back, 1 and 2 for the legs."""
        return (place - len(self.names)) % 3

    def is_end(self, place):
        return place < len(self.names)

    def is_back(self, place):
        return place >= len(self.names) and self.leg_at(place) == 0

    def places_of(self, cell):
        """The places of a cell that are used."""
        back = self.back_of(cell)
        if self.kinds[cell] == "stop":
            return [back]
        return [back, back + 1, back + 2]

    def link(self, one, other, depth):
        """Lets two places be one wire."""
        self.mates[one] = other
        self.mates[other] = one
        self.joined[one] = depth
        self.joined[other] = depth
        if self.is_back(one) and self.is_back(other):
            self.ready.append((self.cell_at(one), self.cell_at(other)))

    def splice(self, one, other, depth):
        """Makes one wire of those at two places that go."""
        left = self.mates[one]
        right = self.mates[other]
        if left == other:
            self.circles += 1
        else:
            self.link(left, right, max(self.joined[one], self.joined[other], depth))

    def hand_on(self, old, new):
        """Puts a new place in the place of one that goes."""
        self.link(new, self.mates[old], self.joined[old])

    def twin(self):
        """The same wiring, to be changed alone."""
        other = Wiring(self.names, self.kinds)
        other.mates = list(self.mates)
        other.circles = self.circles
        other.ready = list(self.ready)
        other.made = list(self.made)
        other.joined = list(self.joined)
        return other

    def renumbered(self, order):
        """The same net with its cells in this order, as if no meeting had been done."""
        other = Wiring(self.names, [self.kinds[cell] for cell in order])
        other.circles = self.circles
        moved = {place: place for place in range(len(self.names))}
        for at, cell in enumerate(order):
            for place in self.places_of(cell):
                moved[place] = other.back_of(at) + self.leg_at(place)
        for place in moved:
            if moved[place] < moved[self.mates[place]]:
                other.link(moved[place], moved[self.mates[place]], 0)
        return other


def wired(ends, cells, joins):
    """The wiring of ends, of cells and joins as they are passed to a net, each wire named just twice.

    A join is a cell that goes at once: its two legs are spliced.
    """
    wiring = Wiring(ends, [cell[0] for cell in cells])
    named = list(enumerate(ends))
    for at, cell in enumerate(cells):
        back = wiring.back_of(at)
        named.extend([(back + leg, name) for leg, name in enumerate(cell[1:])])
    legs = []
    for one, other in joins:
        back = wiring.grow(GONE, 0)
        legs.append(back + 1)
        named.extend([(back + 1, one), (back + 2, other)])
    first_place = {}
    for place, name in named:
        if name in first_place:
            wiring.link(first_place[name], place, 0)
        else:
            first_place[name] = place
    for leg in legs:
        wiring.splice(leg, leg + 1, 0)
    return wiring.renumbered(list(range(len(cells))))
