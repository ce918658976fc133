"""In-out tables, and the programs without rounds that do what they tell."""

from twinforks.errors import BadTable
from twinforks.forms import boxes_apart, figures_of, is_row, signs_of
from twinforks.programs import back_program
from twinforks.things import is_list, is_pair


def are_rows(thing):
    return is_pair(thing) and is_row(thing[0]) and is_row(thing[1])


def is_new_row_pair(thing, ahead):
    """Whether any object is a pair of pairs of rows, the boxes of which are apart from those of all ahead."""
    if not is_pair(thing) or not are_rows(thing[0]) or not are_rows(thing[1]):
        return False
    for side, end in enumerate(("in", "out")):
        box = (end, *thing[side])
        if not all([boxes_apart(box, (end, *other[side])) for other in ahead]):
            return False
    return True


def first_not_in_out(thing):
    """The index of the first thing that is no pair of a table behind those ahead, None in an in-out table."""
    if not is_list(thing):
        return 0
    for at, pair in enumerate(thing):
        if not is_new_row_pair(pair, thing[:at]):
            return at
    return None


def is_in_out(thing):
    """Whether any object is an in-out table."""
    return first_not_in_out(thing) is None


def takes_of(signs, pile):
    """The deeds that take a row's figures off a pile."""
    return [("take", figure, pile) for figure in figures_of(signs)]


def puts_of(signs, pile):
    """The deeds that let a pile begin with a row's figures."""
    return [("put", figure, pile) for figure in reversed(figures_of(signs))]


def half_of(boxes, row, sign):
    """The boxes whose rows of one side begin with a figure, told without it."""
    half = []
    for box in boxes:
        if box[row].startswith(sign):
            rows = [box[0], box[1]]
            rows[row] = rows[row][1:]
            half.append((rows[0], rows[1], box[2]))
    return half


def parted(boxes):
    """The kind by whose figures boxes can be parted, and both halves of them."""
    kind, row = ("x", 0) if all([box[0] != "" for box in boxes]) else ("y", 1)
    return kind, [half_of(boxes, row, sign) for sign in ("0", "1")]


def descent(boxes, at_box):
    """The program that takes the figures of a box off the piles, does what is to be done at this box, and puts on x the
    box's CODE, in the place of figures that tell it from others; and the dict of codes. Boxes are triples of their rows
    as strings and of a number; who comes with figures of none of them is stopped.
    """
    takes = []
    kind, halves = parted(boxes)
    while len(boxes) > 1 and [] in halves:
        figure = 1 - halves.index([])
        takes.append(("take", figure, kind))
        boxes = halves[figure]
        kind, halves = parted(boxes)
    if len(boxes) == 1:
        s, t, number = boxes[0]
        return takes + takes_of(s, "x") + takes_of(t, "y") + at_box[number], {number: ""}
    programs = []
    codes = {}
    for figure in (0, 1):
        program, behind = descent(halves[figure], at_box)
        programs.append(program)
        codes.update({number: str(figure) + code for number, code in behind.items()})
    return [*takes, ("by", kind, *programs, "x")], codes


def numerals(many):
    """So many rows, as strings, just one of which begins each pile."""
    if many == 1:
        return [""]
    half = many // 2
    return ["0" + row for row in numerals(half)] + ["1" + row for row in numerals(many - half)]


def by_numerals(programs):
    """The program that does one of these, as a numeral on y tells, which it leaves there."""
    if len(programs) == 1:
        return programs[0]
    half = len(programs) // 2
    return [("by", "y", by_numerals(programs[:half]), by_numerals(programs[half:]), "y")]


def boxes_of(table, side):
    """The boxes of one side of a table, each with its pair's number."""
    return [(signs_of(pair[side][0]), signs_of(pair[side][1]), at) for at, pair in enumerate(table)]


def in_out_program(table):
    """As program_of_table, of what is known to be an in-out table."""
    if len(table) == 0:
        return [("stop",)]
    sides = [boxes_of(table, 0), boxes_of(table, 1)]
    nothing = [[] for _ in table]
    down, codes = descent(sides[0], nothing)
    up, goals = descent(sides[1], nothing)
    if codes == goals:
        return down + back_program(up)
    # While one code is put in the place of the other, y tells by a numeral which pair's they are.
    rows = numerals(len(table))
    marks = [puts_of(row, "y") for row in rows]
    changes = [takes_of(codes[at], "x") + puts_of(goals[at], "x") for at in range(len(table))]
    return descent(sides[0], marks)[0] + by_numerals(changes) + back_program(descent(sides[1], marks)[0])


def program_of_table(table):
    """A program without rounds that does what an in-out table tells, and is stopped with all other piles."""
    at = first_not_in_out(table)
    if at is not None:
        raise BadTable(at)
    return in_out_program(table)
