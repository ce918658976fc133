"""Texts of ways."""

from twinforks.errors import BadWay
from twinforks.paperreading import WayReader
from twinforks.papertexts import is_index
from twinforks.scanning import check_fault, fault_of, going_on, lines_of
from twinforks.ways import is_way_form


def way_text(way):
    """The text of a way."""
    if not is_way_form(way) or not all([is_index(passing[0]) for passing in way]):
        raise BadWay(way)
    return "".join([f"{index} {deed} {figure}\n" for index, deed, figure in way])


def read_way(text):
    """The way of a text."""
    check_fault(way_fault(text))
    return [(int(index), deed, int(figure)) for index, deed, figure in lines_of(text)]


def way_fault(text):
    """The index of the first wrong sign of any object, None for a way's text."""
    return fault_of(WayReader(), text)


def way_goes_on(text):
    """A way's text that begins with any object, None if there is none."""
    return going_on(WayReader(), text)
