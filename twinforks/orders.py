"""The one order of a net's cells."""


class Listing:
    """A closed part as it is told from one of its cells on, made no further than it is asked for."""

    def __init__(self, wiring, cell):
        self.work = wiring
        self.found = [cell]
        self.seen = {cell: True}
        self.numbers = {}
        self.rows = []

    def row(self, at):
        while len(self.rows) <= at:
            self.lengthen()
        return self.rows[at]

    def lengthen(self):
        cell = self.found[len(self.rows)]
        told = [self.work.kinds[cell]]
        for place in self.work.places_of(cell):
            mate = self.work.mates[place]
            if place not in self.numbers:
                # Each wire has been numbered at both of its places.
                number = len(self.numbers) // 2
                self.numbers[place] = number
                self.numbers[mate] = number
            told.append(self.numbers[place])
            near = self.work.cell_at(mate)
            if near not in self.seen:
                self.seen[near] = True
                self.found.append(near)
        self.rows.append(tuple(told))


def spread(wiring, found, seen):
    """Lengthens found by all cells that its cells' wires lead to, as they are come to."""
    at = 0
    while at < len(found):
        for place in wiring.places_of(found[at]):
            come_to(wiring, place, found, seen)
        at += 1


def come_to(wiring, place, found, seen):
    """Puts the cell behind a place with the others, if it is a new one."""
    mate = wiring.mates[place]
    if not wiring.is_end(mate):
        cell = wiring.cell_at(mate)
        if not seen[cell]:
            seen[cell] = True
            found.append(cell)


def first_unlike_row(one, other, many):
    """The first index at which two listings differ, many if they are alike."""
    for at in range(many):
        if one.row(at) != other.row(at):
            return at
    return many


def root_of(parents, cell):
    while parents[cell] != cell:
        parents[cell] = parents[parents[cell]]
        cell = parents[cell]
    return cell


def unite(parents, tried, one, other):
    """Puts two cells into one class, which is tried if one of the two was."""
    kept = root_of(parents, one)
    left = root_of(parents, other)
    parents[left] = kept
    if left in tried:
        tried[kept] = True


def least_listing(wiring, part):
    """The pair of the least listing of a closed part, its rows, and of the cells in its order.

    Two alike listings turn the part into itself, and so do these turns one behind another: of the
    cells that they lead to one another only one has to be tried, or even parts would take too long.
    """
    best = Listing(wiring, part[0])
    parents = {cell: cell for cell in part}
    tried = {part[0]: True}
    for cell in part[1:]:
        if root_of(parents, cell) in tried:
            continue
        other = Listing(wiring, cell)
        tried[root_of(parents, cell)] = True
        at = first_unlike_row(best, other, len(part))
        if at == len(part):
            for one, turned in zip(best.found, other.found):
                unite(parents, tried, one, turned)
        elif other.row(at) < best.row(at):
            best = other
    best.row(len(part) - 1)
    return best.rows, best.found


def cell_order(wiring):
    """The list of the cells in the one order, and how many of these, the first ones, stand in no closed part."""
    seen = [kind == "" for kind in wiring.kinds]
    order = []
    for place in range(len(wiring.names)):
        come_to(wiring, place, order, seen)
    spread(wiring, order, seen)
    many = len(order)
    parts = []
    for cell in range(len(seen)):
        if not seen[cell]:
            seen[cell] = True
            part = [cell]
            spread(wiring, part, seen)
            parts.append(least_listing(wiring, part))
    for _, cells in sorted(parts):
        order.extend(cells)
    return order, many
