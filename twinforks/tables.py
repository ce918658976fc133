"""Tables made nets."""

from twinforks.forms import signed_box
from twinforks.leaves import longer
from twinforks.tabletexts import boxes_in, check_shut, check_table, first_no_pair, first_not_shut
from twinforks.things import check_ends
from twinforks.treenets import net_of_trees


def is_table(ends, table, shut):
    """Whether any two objects are a table and boxes that are shut."""
    check_ends(ends)
    return first_no_pair(ends, table) is None and first_not_shut(ends, boxes_in(table), shut) is None


def cut_listing(told):
    """The listing of the tree that cuts an end into told boxes; told has rows as strings and what each leads to."""
    listing = []
    left = [("", "", told)]
    while len(left) > 0:
        s, t, inside = left.pop()
        if len(inside) == 0:
            listing.append("stop")
        elif (inside[0][0], inside[0][1]) == (s, t):
            listing.append(inside[0][2])
        else:
            kind = "x" if all([len(row[0]) > len(s) for row in inside]) else "y"
            listing.append(kind)
            for figure in ("1", "0"):
                on_x, on_y = longer(s, t, kind, figure)
                half = [row for row in inside if row[0].startswith(on_x) and row[1].startswith(on_y)]
                left.append((on_x, on_y, half))
    return listing


def told_at(end, nodes):
    """The told boxes at an end, as cut_listing takes them."""
    return [(box[1], box[2], node) for box, node in nodes if box[0] == end]


def net_of(ends, table, shut):
    """The open net that a table tells."""
    check_ends(ends)
    check_table(ends, table)
    check_shut(ends, boxes_in(table), shut)
    nodes = [(signed_box(box), "stop") for box in shut]
    for one, other in table:
        nodes.append((signed_box(one), signed_box(other)))
        nodes.append((signed_box(other), signed_box(one)))
    return net_of_trees(ends, [cut_listing(told_at(end, nodes)) for end in ends], 0)
