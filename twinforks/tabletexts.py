"""Texts of tables and of boxes that are shut."""

from twinforks.errors import BadShut, BadTable
from twinforks.forms import boxes_apart, is_box_at
from twinforks.scanning import check_fault, fault_of, going_on, lines_of
from twinforks.tablereading import TableReader
from twinforks.things import check_ends, is_list, is_pair


def all_apart(box, others):
    return all([boxes_apart(box, other) for other in others])


def is_new_box(ends, thing, ahead):
    """Whether any object is a box at ends that is apart from all ahead."""
    return is_box_at(ends, thing) and all_apart(thing, ahead)


def is_new_pair(ends, thing, ahead):
    """Whether any object is a pair of boxes apart from one another and from all ahead."""
    if not is_pair(thing) or not is_new_box(ends, thing[0], ahead):
        return False
    return is_new_box(ends, thing[1], [*ahead, thing[0]])


def check_table(ends, table):
    """Tells the list of the table's boxes."""
    if not is_list(table):
        raise BadTable(0)
    ahead = []
    for at, pair in enumerate(table):
        if not is_new_pair(ends, pair, ahead):
            raise BadTable(at)
        ahead.extend([pair[0], pair[1]])
    return ahead


def check_shut(ends, shut, boxes):
    """The boxes that are shut have to be apart from the table's."""
    if not is_list(shut):
        raise BadShut(0)
    ahead = list(boxes)
    for at, box in enumerate(shut):
        if not is_new_box(ends, box, ahead):
            raise BadShut(at)
        ahead.append(box)


def row_text(row):
    if len(row) == 0:
        return "-"
    return "".join([str(figure) for figure in row])


def box_text(box):
    return f"{box[0]} {row_text(box[1])} {row_text(box[2])}"


def row_told(word):
    if word == "-":
        return []
    return [int(sign) for sign in word]


def box_told(words):
    """The box of three words."""
    return words[0], row_told(words[1]), row_told(words[2])


def table_text(ends, table, shut):
    """The text of a table and of boxes that are shut."""
    check_ends(ends)
    check_shut(ends, shut, check_table(ends, table))
    lines = [f"{box_text(pair[0])} to {box_text(pair[1])}\n" for pair in table]
    lines.extend([f"shut {box_text(box)}\n" for box in shut])
    return "".join(lines)


def read_table(ends, text):
    """The pair of the table and the boxes that are shut."""
    check_fault(table_fault(ends, text))
    table = []
    shut = []
    for words in lines_of(text):
        if words[0] == "shut":
            shut.append(box_told(words[1:]))
        else:
            table.append((box_told(words[:3]), box_told(words[4:])))
    return table, shut


def table_fault(ends, text):
    """The index of the first wrong sign of any object, None for a table's text."""
    check_ends(ends)
    return fault_of(TableReader(ends), text)


def table_goes_on(ends, text):
    """A table's text that begins with any object, None if there is none."""
    check_ends(ends)
    return going_on(TableReader(ends), text)
