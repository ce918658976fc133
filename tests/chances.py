"""Numbers that look like chance and are the same in each run, and nets, plans and tables made by them."""

from twinforks.nets import Net
from twinforks.plans import Plan


class Chance:
    def __init__(self, seed):
        self.state = seed * 2654435761 % 4294967296 + 1

    def below(self, many):
        self.state = self.state * 6364136223846793005 % 2 ** 64 + 1442695040888963407
        return (self.state >> 33) % many

    def one_of(self, things):
        return things[self.below(len(things))]

    def mixed(self, things):
        left = list(things)
        told = []
        while left:
            told.append(left.pop(self.below(len(left))))
        return told


def some_net(chance, many_ends, many_cells, many_joins=2, kinds=("x", "y", "stop")):
    """Ends, cells (some stops more, if they are too few) and joins, wired by chance."""
    kinds = [chance.one_of(kinds) for _ in range(many_cells)]
    ends = [f"e{k}" for k in range(many_ends)]
    places = 2 * many_joins + sum(1 if kind == "stop" else 3 for kind in kinds)
    while places < many_ends or (places - many_ends) % 2:
        kinds.append("stop")
        places += 1
    names = chance.mixed(ends + [f"n{k}" for k in range((places - many_ends) // 2)] * 2)
    cells = []
    for kind in kinds:
        many = 1 if kind == "stop" else 3
        cells.append((kind, *names[:many]))
        names = names[many:]
    joins = [(names[2 * k], names[2 * k + 1]) for k in range(many_joins)]
    return ends, cells, joins


def make_net(chance, many_ends, many_cells, many_joins=2, kinds=("x", "y", "stop")):
    return Net(*some_net(chance, many_ends, many_cells, many_joins, kinds))


def some_plan(chance, many_parts):
    """Parts, ends and items by chance."""
    parts = []
    for k in range(many_parts):
        ends, items = some_block(chance, parts)
        parts.append((f"p{k}", ends, items))
    ends, items = some_block(chance, parts)
    return parts, ends, items


def some_block(chance, parts):
    ends, cells, joins = some_net(chance, chance.below(4), chance.below(4), chance.below(3))
    items = [*cells, *[("join", *pair) for pair in joins]] + [("loop",)] * chance.below(2)
    for k in range(chance.below(3) if parts else 0):
        name, part_ends, _ = chance.one_of(parts)
        wires = [f"u{k}{j}" for j in range(len(part_ends))]
        items.append(("use", name, wires))
        items.extend(("stop", wire) for wire in wires)
    return ends, chance.mixed(items)


def make_plan(chance, many_parts):
    return Plan(*some_plan(chance, many_parts))


def some_row(chance, longest):
    return [chance.below(2) for _ in range(chance.below(longest + 1))]


def some_endless(chance, longest):
    return some_row(chance, longest), some_row(chance, longest) + [chance.below(2)]


def some_boxes(chance, ends, many):
    """Boxes apart from one another: boxes are halved by chance, then some are left out."""
    boxes = [(end, [], []) for end in ends]
    while len(boxes) < many:
        end, s, t = boxes.pop(chance.below(len(boxes)))
        if chance.below(2):
            boxes.extend([(end, s + [0], t), (end, s + [1], t)])
        else:
            boxes.extend([(end, s, t + [0]), (end, s, t + [1])])
    boxes = chance.mixed(boxes)
    return boxes[:max(many - chance.below(3), 0)]


def some_table(chance, ends, many):
    """A table and boxes that are shut."""
    boxes = some_boxes(chance, ends, many)
    pairs = chance.below(len(boxes) // 2 + 1)
    table = [(boxes[2 * k], boxes[2 * k + 1]) for k in range(pairs)]
    return table, boxes[2 * pairs:]


def some_program(chance, depth, longest=4):
    """A program by chance."""
    deeds = []
    for _ in range(chance.below(longest + 1)):
        word = chance.one_of(("put", "take", "turn", "stop", "by", "round") if depth else ("put", "take", "turn", "stop"))
        piles = [chance.one_of(("x", "y")), chance.one_of(("x", "y"))]
        if word in ("put", "take"):
            deeds.append((word, chance.below(2), piles[0]))
        elif word == "turn":
            deeds.append((word, piles[0]))
        elif word == "stop":
            deeds.append((word,))
        elif word == "by":
            deeds.append((word, piles[0], some_program(chance, depth - 1), some_program(chance, depth - 1), piles[1]))
        else:
            deeds.append((word, piles[0], some_program(chance, depth - 1), piles[1]))
    return deeds


def some_book(chance, lines):
    """A book by chance, in whose lines those ahead are done here and there."""
    book = []
    for k in range(lines):
        book.append((f"n{k}", with_dos(chance, some_program(chance, 2, 3), [name for name, _ in book])))
    return book


def with_dos(chance, program, names):
    told = []
    for deed in program:
        if names and not chance.below(3):
            told.append(("do", chance.one_of(names)))
        told.append(tuple(with_dos(chance, part, names) if isinstance(part, list) else part for part in deed))
    return told


def some_machine(chance, many):
    """States and rules of a machine by chance."""
    states = [(f"s{k}", chance.one_of(("left", "right", "stay"))) for k in range(many)]
    froms = chance.mixed([(name, figure) for name, _ in states[:-1] for figure in (0, 1)])
    tos = chance.mixed([(name, figure) for name, _ in states[1:] for figure in (0, 1)])
    rules = [(state, read, written, after) for (state, read), (after, written) in zip(froms, tos)]
    return states, rules[:len(rules) - chance.below(3)]


def some_in_out(chance, many, longest):
    """An in-out table by chance."""
    sides = []
    for _ in range(2):
        boxes = [(s, t) for _, s, t in some_boxes(chance, ["e"], many + chance.below(4))]
        sides.append([(s + some_row(chance, longest), t + some_row(chance, longest)) for s, t in boxes])
    return list(zip(*sides))[:many]
