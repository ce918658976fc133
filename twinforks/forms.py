"""Rows of figures, endless rows, boxes."""

from twinforks.errors import BadEndless, BadIndex
from twinforks.things import check_ends, is_list, is_number, is_pair


def is_figure(thing):
    return is_number(thing) and thing <= 1


def is_row(thing):
    """Whether any object is a row of figures."""
    return is_list(thing) and all([is_figure(figure) for figure in thing])


def is_endless(thing):
    """Whether any object is an endless row, a pair (head, round)."""
    return is_pair(thing) and is_row(thing[0]) and is_row(thing[1]) and len(thing[1]) > 0


def check_endless(endless):
    if not is_endless(endless):
        raise BadEndless(endless)


def shortest_round(figures):
    """The shortest row that tells, again and again, the same as this one."""
    many = len(figures)
    for length in range(1, many):
        if many % length == 0 and figures[:length] * (many // length) == figures:
            return figures[:length]
    return figures


def least_endless(endless):
    """The pair that tells the same figures with the shortest round, then the shortest head."""
    check_endless(endless)
    head = list(endless[0])
    again = shortest_round(list(endless[1]))
    rolled = 0
    while rolled < len(head) and head[-1 - rolled] == again[-1 - rolled % len(again)]:
        rolled += 1
    turn = len(again) - rolled % len(again)
    return head[:len(head) - rolled], again[turn:] + again[:turn]


def figure_there(endless, index):
    """As figure_at, of what is known to be right."""
    head, again = endless
    if index < len(head):
        return head[index]
    return again[(index - len(head)) % len(again)]


def figure_at(endless, index):
    """The figure at an index, from 0 on."""
    check_endless(endless)
    if not is_number(index):
        raise BadIndex(index)
    return figure_there(endless, index)


def is_box_at(ends, thing):
    """As is_box, of ends that are known to be ends."""
    if not is_list(thing) or len(thing) != 3 or not isinstance(thing[0], str):
        return False
    return thing[0] in ends and is_row(thing[1]) and is_row(thing[2])


def is_box(ends, thing):
    """Whether any object is a box at these ends."""
    check_ends(ends)
    return is_box_at(ends, thing)


def are_apart(row, other):
    """Whether neither of two rows begins with the other."""
    shared = min(len(row), len(other))
    return list(row[:shared]) != list(other[:shared])


def boxes_apart(box, other):
    return box[0] != other[0] or are_apart(box[1], other[1]) or are_apart(box[2], other[2])


def signs_of(row):
    """A row's figures as a string, by which rows are worked with where they are keys or begin with one another."""
    return "".join([str(figure) for figure in row])


def figures_of(signs):
    """The row of a string of figures."""
    return [int(sign) for sign in signs]


def box_of(signed):
    """The box of a triple of an end and two strings of figures."""
    return signed[0], figures_of(signed[1]), figures_of(signed[2])


def signed_box(box):
    """The triple of a box's end and of its rows as strings."""
    return box[0], signs_of(box[1]), signs_of(box[2])
