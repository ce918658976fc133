"""Texts of tables and of boxes that are shut."""

from twinforks.errors import BadShut, BadTable
from twinforks.forms import box_of, boxes_apart, is_box_at, signs_of
from twinforks.scanning import check_fault, fault_of, going_on, lines_of
from twinforks.tablereading import TableReader
from twinforks.things import check_ends, is_list, is_pair


def all_apart(box, others):
    return all([boxes_apart(box, other) for other in others])


def is_new_box(ends, thing, ahead):
    """Whether any object is a box at ends that is apart from all ahead."""
    return is_box_at(ends, thing) and all_apart(thing, ahead)


def is_new_pair(ends, thing, ahead):
    """Whether any object is a pair of boxes apart from one another and from all ahead."""
    if not is_pair(thing) or not is_new_box(ends, thing[0], ahead):
        return False
    return is_new_box(ends, thing[1], [*ahead, thing[0]])


def boxes_in(table):
    """The list of a table's boxes."""
    boxes = []
    for pair in table:
        boxes.extend([pair[0], pair[1]])
    return boxes


def first_no_pair(ends, table):
    """The index of the first thing in what should be a table that is no pair there, None in a table."""
    if not is_list(table):
        return 0
    for at, pair in enumerate(table):
        if not is_new_pair(ends, pair, boxes_in(table[:at])):
            return at
    return None


def first_not_shut(ends, boxes, shut):
    """The index of the first thing that is no box apart from boxes and from those ahead, None without one."""
    if not is_list(shut):
        return 0
    for at, box in enumerate(shut):
        if not is_new_box(ends, box, [*boxes, *shut[:at]]):
            return at
    return None


def check_table(ends, table):
    at = first_no_pair(ends, table)
    if at is not None:
        raise BadTable(at)


def check_shut(ends, boxes, shut):
    """The boxes that are shut have to be apart from others."""
    at = first_not_shut(ends, boxes, shut)
    if at is not None:
        raise BadShut(at)


def row_text(row):
    return "-" if len(row) == 0 else signs_of(row)


def box_text(box):
    return f"{box[0]} {row_text(box[1])} {row_text(box[2])}"


def box_told(words):
    """The box of three words."""
    return box_of([word.replace("-", "") for word in words])


def table_text(ends, table, shut):
    """The text of a table and of boxes that are shut."""
    check_ends(ends)
    check_table(ends, table)
    check_shut(ends, boxes_in(table), shut)
    lines = [f"{box_text(pair[0])} to {box_text(pair[1])}\n" for pair in table]
    lines.extend([f"shut {box_text(box)}\n" for box in shut])
    return "".join(lines)


def pair_told(words):
    """The two boxes of a line's words."""
    return box_told(words[:3]), box_told(words[4:])


def table_lines(text):
    """For each line of a text that is right its two boxes, None in the place of the second one in a line of a box that
    is shut.
    """
    return [(box_told(words[1:]), None) if words[0] == "shut" else pair_told(words) for words in lines_of(text)]


def read_table(ends, text):
    """The pair of the table and the boxes that are shut."""
    check_fault(table_fault(ends, text))
    lines = table_lines(text)
    return [line for line in lines if line[1] is not None], [box for box, goal in lines if goal is None]


def table_fault(ends, text):
    """The index of the first wrong sign of any object, None for a table's text."""
    check_ends(ends)
    return fault_of(TableReader(ends), text)


def table_goes_on(ends, text):
    """A table's text that begins with any object, None if there is none."""
    check_ends(ends)
    return going_on(TableReader(ends), text)
