"""The document's words done by names, slowly and otherwise than the package does them, to be compared with it."""

from twinforks.nets import Net


def joined(pieces, one, other):
    """Names made one by a join: all places of other are called one."""
    return [[one if name == other else name for name in piece] for piece in pieces]


def without_joins(ends, cells, joins):
    """The cells, pairs of ends that are one wire and the number of loops, with joins done away with by renaming.

    Each end gets a place of its own, so that its name may be changed, too.
    """
    pieces = [[end] for end in ends] + [list(cell[1:]) for cell in cells]
    left = [tuple(join) for join in joins]
    loops = 0
    while left:
        one, other = left.pop(0)
        if one == other:
            loops += 1
            continue
        pieces = joined(pieces, one, other)
        left = [tuple(one if name == other else name for name in join) for join in left]
    return pieces[:len(ends)], [(cell[0], *piece) for cell, piece in zip(cells, pieces[len(ends):])], loops


def cells_at(cells, name):
    """The indexes of the cells at which a wire's name stands."""
    return [at for at, cell in enumerate(cells) if name in cell[1:]]


def spread(cells, found):
    """The cells as they are come to from those found."""
    found = list(found)
    for at in found:
        for name in cells[at][1:]:
            for near in cells_at(cells, name):
                if near not in found:
                    found.append(near)
    return found


def listing(cells, order):
    numbers = {}
    rows = []
    for at in order:
        rows.append((cells[at][0], *[numbers.setdefault(name, len(numbers)) for name in cells[at][1:]]))
    return rows


def told(ends, cells, joins):
    """What a net of these tells: (cells, joins, loops), by the words of [8] to [10]."""
    end_wires, cells, loops = without_joins(ends, cells, joins)
    end_wires = [piece[0] for piece in end_wires]
    order = []
    for wire in end_wires:
        order.extend(at for at in cells_at(cells, wire) if at not in order)
    order = spread(cells, order)
    parts = []
    left = [at for at in range(len(cells)) if at not in order]
    while left:
        part = spread(cells, [left[0]])
        parts.append(min((listing(cells, spread(cells, [at])), spread(cells, [at])) for at in part))
        left = [at for at in left if at not in part]
    for _, part in sorted(parts):
        order.extend(part)
    free = (f"w{k}" for k in range(1, 100000) if f"w{k}" not in ends)
    names = {}
    for at, wire in enumerate(end_wires):
        names.setdefault(wire, ends[at])
    for at in order:
        for wire in cells[at][1:]:
            if wire not in names:
                names[wire] = next(free)
    pairs = [(ends[one], ends[two]) for one in range(len(ends)) for two in range(one + 1, len(ends))
             if end_wires[one] == end_wires[two]]
    return [(cells[at][0], *[names[wire] for wire in cells[at][1:]]) for at in order], pairs, loops


def met(net, pair):
    """The net behind a meeting, by the words of [19]: what the legs led to is joined by new names."""
    cells = net.cells()
    joins = list(net.joins()) + [(f"loop{k}", f"loop{k}") for k in range(net.loops())]
    one, two = cells[pair[0]], cells[pair[1]]
    rest = [cell for at, cell in enumerate(cells) if at not in pair]
    if one[0] == two[0] and one[0] != "stop":
        joins += [(one[2], two[2]), (one[3], two[3])]
    elif "stop" in (one[0], two[0]):
        rest += [("stop", leg) for leg in one[2:] + two[2:]]
    else:
        if one[0] == "y":
            one, two = two, one
        rest += [("y", one[2 + i], f"z{i}0", f"z{i}1") for i in range(2)]
        rest += [("x", two[2 + j], f"z0{j}", f"z1{j}") for j in range(2)]
    return Net(net.ends(), rest, joins)


def walked(net, end, x, y, most):
    """("out", end, row, row, number), ("stopped", number), ("asks", kind) or None, of a walker with two rows as piles."""
    piles = {"x": list(x), "y": list(y)}
    cells = net.cells()
    wire, came_from = end, end
    for number in range(most + 1):
        places = net.places(wire)
        goal = places[1] if places[0] == came_from else places[0]
        if isinstance(goal, str):
            return "out", goal, piles["x"], piles["y"], number
        kind = cells[goal[0]][0]
        if kind == "stop":
            return "stopped", number
        if goal[1] == 0:
            if not piles[kind]:
                return "asks", kind
            leg = piles[kind].pop(0) + 1
        else:
            piles[kind].insert(0, goal[1] - 1)
            leg = 0
        came_from = (goal[0], leg)
        wire = cells[goal[0]][leg + 1]
    return None


def hung_on(net, course):
    """For each meeting of a course in no closed part the list of the indexes of those on which it hangs, by [23]."""
    cells = [[cell[0], list(cell[1:]), []] for cell in net.cells()]
    first = {pair[1]: pair[0] for pair in net.joins()}
    end_wires = [first.get(end, end) for end in net.ends()]
    openings = {}
    told = []
    for index, pair in enumerate(course):
        plain = [(cell[0], *cell[1]) for cell in cells]
        order = []
        for wire in end_wires:
            order.extend(at for at in cells_at(plain, wire) if at not in order)
        order = spread(plain, order)
        one, two = cells[order[pair[0]]], cells[order[pair[1]]]
        assert one[1][0] == two[1][0]
        told.append(sorted({*one[2], *two[2], *openings.get(one[1][0], [])}))
        cells = [cell for cell in cells if cell is not one and cell is not two]
        if one[0] == two[0] and one[0] != "stop":
            joins = [(one[1][1], two[1][1]), (one[1][2], two[1][2])]
            for at, (left, right) in enumerate(joins):
                openings[left] = [*openings.get(left, []), *openings.get(right, []), index]
                for cell in cells:
                    cell[1] = [left if wire == right else wire for wire in cell[1]]
                end_wires = [left if wire == right else wire for wire in end_wires]
                joins[at + 1:] = [tuple(left if wire == right else wire for wire in join) for join in joins[at + 1:]]
        elif "stop" in (one[0], two[0]):
            cells += [["stop", [leg], [index]] for leg in one[1][1:] + two[1][1:]]
        else:
            new = [[f"{index}.{i}{j}" for j in range(2)] for i in range(2)]
            cells += [[two[0], [one[1][1 + i], new[i][0], new[i][1]], [index]] for i in range(2)]
            cells += [[one[0], [two[1][1 + j], new[0][j], new[1][j]], [index]] for j in range(2)]
    return told


def depths(hung):
    """1 for what hangs on nothing, else one more than the greatest of those on which it hangs."""
    told = []
    for ahead in hung:
        told.append(1 + max([told[index] for index in ahead], default=0))
    return told


def across(net, endpoint):
    """The other endpoint of the wire at one, an end's name or a pair (index, place)."""
    wire = endpoint if isinstance(endpoint, str) else net.cells()[endpoint[0]][endpoint[1] + 1]
    places = net.places(wire)
    return places[1] if places[0] == endpoint else places[0]


def leaf_boxes(net):
    """The dict from the endpoints at which leaves of a still net are to their boxes, in the order of trees."""
    cells = net.cells()
    told = {}

    def go_down(endpoint, end, s, t):
        goal = across(net, endpoint)
        kind = "" if isinstance(goal, str) or goal[1] else cells[goal[0]][0]
        if kind == "x":
            go_down((goal[0], 1), end, s + [0], t)
            go_down((goal[0], 2), end, s + [1], t)
        elif kind == "y":
            go_down((goal[0], 1), end, s, t + [0])
            go_down((goal[0], 2), end, s, t + [1])
        else:
            told[endpoint] = (end, s, t)

    for end in net.ends():
        go_down(end, end, [], [])
    return told


def in_trees(net):
    """The indexes of the cells that stand in a tree, by [35]'s words, again and again till no more are found."""
    found = set()
    many = -1
    while len(found) > many:
        many = len(found)
        for index in range(len(net.cells())):
            goal = across(net, (index, 0))
            if isinstance(goal, str) or (goal[1] > 0 and goal[0] in found):
                found.add(index)
    return sorted(found)


def tree(net, endpoint, boxes):
    """What hangs at an endpoint."""
    goal = across(net, endpoint)
    if endpoint in boxes:
        if goal in boxes:
            return "to", boxes[goal]
        return ("stop",) if not isinstance(goal, str) and goal[1] == 0 else ("ring",)
    return net.cells()[goal[0]][0], tree(net, (goal[0], 1), boxes), tree(net, (goal[0], 2), boxes)


def goes(net, box):
    """The box to which one within a leaf's box goes, None in a shut one, by [37]; the box itself told if it is cut."""
    boxes = leaf_boxes(net)
    end, s, t = box
    for endpoint, (other, u, v) in boxes.items():
        if other == end and s[:len(u)] == u and t[:len(v)] == v:
            if across(net, endpoint) not in boxes:
                return None
            goal, goal_s, goal_t = boxes[across(net, endpoint)]
            return goal, goal_s + s[len(u):], goal_t + t[len(v):]
    return box


def all_rows(many):
    return [[(number >> k) & 1 for k in reversed(range(many))] for number in range(2 ** many)]


def answer(net, box, longest):
    """The goal of a box, "shut", or None, by [40]'s words; longest is at least as long as all leaves' rows."""
    told = []
    for more_s in all_rows(longest):
        for more_t in all_rows(longest):
            goal = goes(net, (box[0], box[1] + more_s, box[2] + more_t))
            if goal is None:
                told.append("shut")
            elif goal[1][len(goal[1]) - longest:] != more_s or goal[2][len(goal[2]) - longest:] != more_t:
                return None
            else:
                told.append((goal[0], goal[1][:len(goal[1]) - longest], goal[2][:len(goal[2]) - longest]))
    return told[0] if all(one == told[0] for one in told) else None


def form(net, longest):
    """The form by its words: rows tried from the shortest on."""
    told = []

    def strip(end, s, t):
        """The rows of the boxes that would do, None if s is not even."""
        found = answer(net, (end, s, t), longest)
        if found is not None:
            return [((end, s, t), found)]
        if len(t) > longest:
            return None
        halves = [strip(end, s, t + [figure]) for figure in (0, 1)]
        return None if None in halves else halves[0] + halves[1]

    def strips(end, s):
        found = strip(end, s, [])
        if found is None:
            strips(end, s + [0])
            strips(end, s + [1])
        else:
            told.extend(pair for pair in found if pair[1] != "shut")

    for end in net.ends():
        strips(end, [])
    return told


def passings_ahead(net, end, s, t):
    """How many passings the walker of a box has till it asks, comes out or is stopped; None if it goes on for long."""
    for most in range(200):
        if walked(net, end, s, t, most) is not None:
            return most
    return None


def asked(net, end, s, t):
    """The pair of the tree of what is asked, s and t known, and of the passings in it behind those ahead; by walks."""
    told = walked(net, end, s, t, 200)
    ahead = passings_ahead(net, end, s, t)
    if told[0] == "stopped":
        return ("stop",), ahead
    if told[0] == "out":
        return ("to", (told[1], told[2], told[3])), ahead
    trees, total = [], ahead
    for figure in (0, 1):
        more = (s + [figure], t) if told[1] == "x" else (s, t + [figure])
        branch, behind = asked(net, end, *more)
        trees.append(branch)
        total += behind - ahead
    return (told[1], *trees), total


def stepped(net, step):
    """The net behind a step that can be done, by the words of [51]."""
    cells = [list(cell) for cell in net.cells()]
    joins = list(net.joins()) + [(f"loop{k}", f"loop{k}") for k in range(net.loops())]
    if step == ("loop",):
        joins.append(("one", "one"))
    elif step == ("unloop",):
        joins.pop()
    elif step[0] == "grow":
        cells, joins = grown(net, cells, joins, step[1], step[2])
    elif step[0] == "shrink":
        cells, joins = shrunk(cells, joins, step[1])
    else:
        own = cells[step[1]]
        upper = [[cell for cell in cells if cell[1] == leg][0] for leg in own[2:]]
        cells = [cell for cell in cells if cell is not own and cell not in upper]
        cells.append([upper[0][0], own[1], "t0", "t1"])
        cells += [[own[0], f"t{j}", upper[0][2 + j], upper[1][2 + j]] for j in range(2)]
    return Net(net.ends(), cells, joins)


def grown(net, cells, joins, kind, wire):
    one, other = net.places(wire)
    backs = [one if isinstance(one, str) else "g0", other if isinstance(other, str) else "g1"]
    joins = [join for join in joins if wire not in join]
    for back, endpoint in zip(backs, (one, other)):
        if not isinstance(endpoint, str):
            cells[endpoint[0]][endpoint[1] + 1] = back
    if isinstance(one, str) and not isinstance(other, str):
        cells[other[0]][other[1] + 1] = "g1"
    stops = [cell for cell in cells if cell[0] == "stop" and cell[1] in backs]
    if stops:
        cells.remove(stops[0])
        backs.remove(stops[0][1])
        return cells + [[kind, backs[0], "g2", "g3"], ["stop", "g2"], ["stop", "g3"]], joins
    return cells + [[kind, back, "g2", "g3"] for back in backs], joins


def shrunk(cells, joins, index):
    fork = cells[index]
    others = [cell for cell in cells if cell is not fork and cell[1] in fork[2:]]
    if others:
        return [cell for cell in cells if cell is not fork and cell not in others] + [["stop", fork[1]]], joins
    partner = [cell for cell in cells if cell is not fork and cell[0] == fork[0] and cell[2:] == fork[2:]][0]
    return [cell for cell in cells if cell is not fork and cell is not partner], joins + [(fork[1], partner[1])]


def met_by(net, index, most):
    """The pair of the list of the cells that the asker from one meets and of its passings, by [64]'s words; None if long."""
    cells = net.cells()

    def go(endpoint, piles, left):
        """From an endpoint that it has come to on."""
        if left < 0:
            raise RecursionError
        if isinstance(endpoint, str):
            return [], 0
        number, place = endpoint
        kind = cells[number][0]
        if kind == "stop":
            return [number], 0
        if place:
            found, many = go(across(net, (number, 0)), {**piles, kind: [place - 1, *piles[kind]]}, left - 1)
            return found, many + 1
        if piles[kind]:
            found, many = go(across(net, (number, piles[kind][0] + 1)), {**piles, kind: piles[kind][1:]}, left - 1)
            return found, many + 1
        if kind == cells[index][0]:
            return [number], 0
        found, many = [number], 0
        for leg in (1, 2):
            more, behind = go(across(net, (number, leg)), piles, left - 1)
            found, many = found + more, many + behind + 1
        return found, many

    try:
        return go(across(net, (index, 0)), {"x": [], "y": []}, most)
    except RecursionError:
        return None
