"""Endless rows: their tops, what is behind these, where two differ."""

from twinforks.errors import BadFigures, BadMany, BadOther
from twinforks.forms import check_endless, figure_there, is_endless, is_row, least_endless
from twinforks.things import is_number


def check_many(many):
    if not is_number(many):
        raise BadMany(many)


def check_figures(figures):
    if not is_row(figures):
        raise BadFigures(figures)


def tops(endless, many):
    """The row of the first so many figures."""
    check_endless(endless)
    check_many(many)
    head, again = list(endless[0]), list(endless[1])
    lacking = max(many - len(head), 0)
    return (head + again * (lacking // len(again) + 1))[:many]


def drop_tops(endless, many):
    """The endless row behind the first so many figures."""
    check_endless(endless)
    check_many(many)
    head, again = list(endless[0]), list(endless[1])
    turn = max(many - len(head), 0) % len(again)
    return least_endless((head[many:], again[turn:] + again[:turn]))


def put_all(figures, endless):
    """The endless row that begins with figures and goes on as another one."""
    check_figures(figures)
    check_endless(endless)
    return least_endless((list(figures) + list(endless[0]), endless[1]))


def first_unlike(endless, other):
    """The first index at which two endless rows differ, None if they are one row."""
    check_endless(endless)
    if not is_endless(other):
        raise BadOther(other)
    bound = max(len(endless[0]), len(other[0])) + len(endless[1]) + len(other[1])
    for index in range(bound):
        if figure_there(endless, index) != figure_there(other, index):
            return index
    return None
