"""What boxes apart from one another leave of an end's addresses.

Here rows are strings of figures, a box at an end is a pair of them.
"""


def is_near(row, other):
    """Whether one of two rows begins with the other."""
    return row.startswith(other) or other.startswith(row)


def fill_all(depths):
    """Whether pieces apart from one another, each halved so often, are the whole.

    Two halves of a depth make one of the depth ahead, and an odd one is lost: so no number grows with the rows.
    """
    many = {}
    for depth in depths:
        many[depth] = many.get(depth, 0) + 1
    carried = 0
    for depth in range(max(depths, default=0), 0, -1):
        carried = (carried + many.get(depth, 0)) // 2
    return carried + many.get(0, 0) == 1


def boxes_near(boxes, s, t):
    """The boxes that are not apart from one."""
    return [box for box in boxes if is_near(box[0], s) and is_near(box[1], t)]


def beyond(row, other):
    """By how many figures a row goes on behind another one."""
    return max(len(row) - len(other), 0)


def is_filled(boxes, s, t):
    """Whether no address is left in the box of s and t."""
    return fill_all([beyond(box[0], s) + beyond(box[1], t) for box in boxes_near(boxes, s, t)])


def free_box(boxes, s, t):
    """A box within one that is not filled, apart from all boxes."""
    near = boxes_near(boxes, s, t)
    while len(near) > 0:
        if len(near[0][0]) > len(s):
            s = s + ("1" if is_filled(boxes, s + "0", t) else "0")
        else:
            t = t + ("1" if is_filled(boxes, s, t + "0") else "0")
        near = boxes_near(boxes, s, t)
    return s, t


def rows_beside(boxes, s):
    """The second rows of the boxes whose first row is not apart from s."""
    return [box[1] for box in boxes if is_near(box[0], s)]


def is_covered(rows, t):
    """Whether all that begins with t begins with one of the rows, which may begin with one another."""
    near = sorted([row for row in rows if is_near(row, t)])
    shortest = []
    for row in near:
        if len(shortest) == 0 or not row.startswith(shortest[-1]):
            shortest.append(row)
    return fill_all([beyond(row, t) for row in shortest])


def free_row(rows, t):
    """A shortest row beginning with t, which is not covered, that is apart from all rows."""
    while any([is_near(row, t) for row in rows]):
        t = t + ("1" if is_covered(rows, t + "0") else "0")
    return t
