"""The document's words done by names, slowly and otherwise than the package does them, to be compared with it."""

from twinforks.nets import Net


def joined(pieces, one, other):
    """Names made one by a join: all places of other are called one."""
    return [[one if name == other else name for name in piece] for piece in pieces]


def without_joins(ends, cells, joins):
    """The cells, pairs of ends that are one wire and the number of loops, with joins done away with by renaming.

    Each end gets a place of its own, so that its name may be changed, too.
    """
    pieces = [[end] for end in ends] + [list(cell[1:]) for cell in cells]
    left = [tuple(join) for join in joins]
    loops = 0
    while left:
        one, other = left.pop(0)
        if one == other:
            loops += 1
            continue
        pieces = joined(pieces, one, other)
        left = [tuple(one if name == other else name for name in join) for join in left]
    return pieces[:len(ends)], [(cell[0], *piece) for cell, piece in zip(cells, pieces[len(ends):])], loops


def cells_at(cells, name):
    """The indexes of the cells at which a wire's name stands."""
    return [at for at, cell in enumerate(cells) if name in cell[1:]]


def spread(cells, found):
    """The cells as they are come to from those found."""
    found = list(found)
    for at in found:
        for name in cells[at][1:]:
            for near in cells_at(cells, name):
                if near not in found:
                    found.append(near)
    return found


def listing(cells, order):
    numbers = {}
    rows = []
    for at in order:
        rows.append((cells[at][0], *[numbers.setdefault(name, len(numbers)) for name in cells[at][1:]]))
    return rows


def told(ends, cells, joins):
    """What a net of these tells: (cells, joins, loops), by the words of [8] to [10]."""
    end_wires, cells, loops = without_joins(ends, cells, joins)
    end_wires = [piece[0] for piece in end_wires]
    order = []
    for wire in end_wires:
        order.extend(at for at in cells_at(cells, wire) if at not in order)
    order = spread(cells, order)
    parts = []
    left = [at for at in range(len(cells)) if at not in order]
    while left:
        part = spread(cells, [left[0]])
        parts.append(min((listing(cells, spread(cells, [at])), spread(cells, [at])) for at in part))
        left = [at for at in left if at not in part]
    for _, part in sorted(parts):
        order.extend(part)
    free = (f"w{k}" for k in range(1, 100000) if f"w{k}" not in ends)
    names = {}
    for at, wire in enumerate(end_wires):
        names.setdefault(wire, ends[at])
    for at in order:
        for wire in cells[at][1:]:
            if wire not in names:
                names[wire] = next(free)
    pairs = [(ends[one], ends[two]) for one in range(len(ends)) for two in range(one + 1, len(ends))
             if end_wires[one] == end_wires[two]]
    return [(cells[at][0], *[names[wire] for wire in cells[at][1:]]) for at in order], pairs, loops


def met(net, pair):
    """The net behind a meeting, by the words of [19]: what the legs led to is joined by new names."""
    cells = net.cells()
    joins = list(net.joins()) + [(f"loop{k}", f"loop{k}") for k in range(net.loops())]
    one, two = cells[pair[0]], cells[pair[1]]
    rest = [cell for at, cell in enumerate(cells) if at not in pair]
    if one[0] == two[0] and one[0] != "stop":
        joins += [(one[2], two[2]), (one[3], two[3])]
    elif "stop" in (one[0], two[0]):
        rest += [("stop", leg) for leg in one[2:] + two[2:]]
    else:
        if one[0] == "y":
            one, two = two, one
        rest += [("y", one[2 + i], f"z{i}0", f"z{i}1") for i in range(2)]
        rest += [("x", two[2 + j], f"z0{j}", f"z1{j}") for j in range(2)]
    return Net(net.ends(), rest, joins)


def walked(net, end, x, y, most):
    """("out", end, row, row, number), ("stopped", number), ("asks", kind) or None, of a walker with two rows as piles."""
    piles = {"x": list(x), "y": list(y)}
    cells = net.cells()
    wire, came_from = end, end
    for number in range(most + 1):
        places = net.places(wire)
        goal = places[1] if places[0] == came_from else places[0]
        if isinstance(goal, str):
            return "out", goal, piles["x"], piles["y"], number
        kind = cells[goal[0]][0]
        if kind == "stop":
            return "stopped", number
        if goal[1] == 0:
            if not piles[kind]:
                return "asks", kind
            leg = piles[kind].pop(0) + 1
        else:
            piles[kind].insert(0, goal[1] - 1)
            leg = 0
        came_from = (goal[0], leg)
        wire = cells[goal[0]][leg + 1]
    return None


def hung_on(net, course):
    """For each meeting of a course in no closed part the list of the indexes of those on which it hangs, by [23]."""
    cells = [[cell[0], list(cell[1:]), []] for cell in net.cells()]
    first = {pair[1]: pair[0] for pair in net.joins()}
    end_wires = [first.get(end, end) for end in net.ends()]
    openings = {}
    told = []
    for index, pair in enumerate(course):
        plain = [(cell[0], *cell[1]) for cell in cells]
        order = []
        for wire in end_wires:
            order.extend(at for at in cells_at(plain, wire) if at not in order)
        order = spread(plain, order)
        one, two = cells[order[pair[0]]], cells[order[pair[1]]]
        assert one[1][0] == two[1][0]
        told.append(sorted({*one[2], *two[2], *openings.get(one[1][0], [])}))
        cells = [cell for cell in cells if cell is not one and cell is not two]
        if one[0] == two[0] and one[0] != "stop":
            joins = [(one[1][1], two[1][1]), (one[1][2], two[1][2])]
            for at, (left, right) in enumerate(joins):
                openings[left] = [*openings.get(left, []), *openings.get(right, []), index]
                for cell in cells:
                    cell[1] = [left if wire == right else wire for wire in cell[1]]
                end_wires = [left if wire == right else wire for wire in end_wires]
                joins[at + 1:] = [tuple(left if wire == right else wire for wire in join) for join in joins[at + 1:]]
        elif "stop" in (one[0], two[0]):
            cells += [["stop", [leg], [index]] for leg in one[1][1:] + two[1][1:]]
        else:
            new = [[f"{index}.{i}{j}" for j in range(2)] for i in range(2)]
            cells += [[two[0], [one[1][1 + i], new[i][0], new[i][1]], [index]] for i in range(2)]
            cells += [[one[0], [two[1][1 + j], new[0][j], new[1][j]], [index]] for j in range(2)]
    return told


def depths(hung):
    """1 for what hangs on nothing, else one more than the greatest of those on which it hangs."""
    told = []
    for ahead in hung:
        told.append(1 + max([told[index] for index in ahead], default=0))
    return told
