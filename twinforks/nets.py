"""Nets: ends, cells, joins, told in the one order."""

from twinforks.errors import BadCells, BadJoins, BadNet, BadWire
from twinforks.orders import cell_order
from twinforks.things import are_names, check_ends, first_not_twice, is_list, is_name, is_pair
from twinforks.wirings import wired


def is_cell(thing):
    """Whether any object is a cell, a fork or a stop."""
    if not is_list(thing):
        return False
    if len(thing) == 4:
        return thing[0] in ("x", "y") and are_names(thing[1:])
    return len(thing) == 2 and thing[0] == "stop" and is_name(thing[1])


def is_join(thing):
    return is_pair(thing) and are_names(thing)


def check_cells(cells):
    if not is_list(cells):
        raise BadCells(0)
    for at, cell in enumerate(cells):
        if not is_cell(cell):
            raise BadCells(at)


def check_joins(joins):
    if not is_list(joins):
        raise BadJoins(0)
    for at, join in enumerate(joins):
        if not is_join(join):
            raise BadJoins(at)


def check_wires(names):
    name = first_not_twice(names)
    if name is not None:
        raise BadWire(name)


def check_net(net):
    if not isinstance(net, Net):
        raise BadNet(net)


def place_names(wiring, order):
    """For each place the name of its wire: an end's, or w1, w2, .. as the wires first stand, cells told in an order."""
    ends = wiring.names
    names = ends + [""] * (3 * len(wiring.kinds))
    number = 0
    for cell in order:
        for place in wiring.places_of(cell):
            mate = wiring.mates[place]
            if wiring.is_end(mate):
                names[place] = ends[mate]
            elif names[place] == "":
                number += 1
                while f"w{number}" in ends:
                    number += 1
                names[place] = f"w{number}"
                names[mate] = names[place]
    return names


def told_cells(wiring, names):
    """The cells, with the names of the wires at their places."""
    told = []
    for cell, kind in enumerate(wiring.kinds):
        told.append((kind, *[names[place] for place in wiring.places_of(cell)]))
    return told


def told_joins(wiring):
    """The pairs of ends that are one wire."""
    told = []
    for place, name in enumerate(wiring.names):
        mate = wiring.mates[place]
        if place < mate and wiring.is_end(mate):
            told.append((name, wiring.names[mate]))
    return told


class Net:
    """A net of forks and stops. It never changes."""

    def __init__(self, ends, cells, joins):
        check_ends(ends)
        check_cells(cells)
        check_joins(joins)
        names = list(ends)
        for row in cells:
            names.extend(row[1:])
        for row in joins:
            names.extend(row)
        check_wires(names)
        self.keep_wiring(wired(ends, cells, joins))

    def keep_wiring(self, wiring):
        """Lets the net be the one of this wiring, as it is made."""
        order, _ = cell_order(wiring)
        self._wiring = wiring.renumbered(order)
        names = place_names(self._wiring, list(range(len(order))))
        self._cells = told_cells(self._wiring, names)
        self._joins = told_joins(self._wiring)
        self._first_places = {}
        for place, name in enumerate(names):
            if name != "" and name not in self._first_places:
                self._first_places[name] = place

    def same_net(self):
        """Another object for the same net; what the two keep never changes."""
        other = Net([], [], [])
        other._wiring = self._wiring
        other._cells = self._cells
        other._joins = self._joins
        other._first_places = self._first_places
        return other

    def wiring(self):
        """The net by numbers, its cells numbered as cells() tells them, to be changed."""
        return self._wiring.twin()

    def meeting_pairs(self):
        """The pairs of the indexes of cells that meet, ascending."""
        return list(self._wiring.ready)

    def ends(self):
        return list(self._wiring.names)

    def cells(self):
        return list(self._cells)

    def joins(self):
        return list(self._joins)

    def loops(self):
        return self._wiring.circles

    def wires(self):
        """The names of all wires: the ends, but no join's second one, then the inner wires."""
        second = [other for _, other in self._joins]
        return [name for name in self._first_places if name not in second]

    def places(self, wire):
        """The two endpoints of a wire: an end's name, a pair (index of the cell, place)."""
        if not isinstance(wire, str) or wire not in self._first_places:
            raise BadWire(wire)
        wiring = self._wiring
        first = self._first_places[wire]
        told = []
        for place in sorted([first, wiring.mates[first]]):
            if wiring.is_end(place):
                told.append(wiring.names[place])
            else:
                told.append((wiring.cell_at(place), wiring.leg_at(place)))
        return told

    def first_place(self, wire):
        """The number of the first place of a wire, in the wiring."""
        return self._first_places[wire]

    def __eq__(self, other):
        if not isinstance(other, Net) or self._wiring.circles != other._wiring.circles:
            return False
        return self.is_but_loops(other)

    def is_but_loops(self, other):
        """Whether two nets are equal but for their loops."""
        return self.ends() == other.ends() and self._cells == other._cells and self._joins == other._joins


def net_of_wiring(wiring):
    """The net of a wiring, which is not kept."""
    net = Net([], [], [])
    net.keep_wiring(wiring)
    return net
