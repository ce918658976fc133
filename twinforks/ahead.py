"""The number of meetings ahead, told by askers."""

from twinforks.askers import asker_from
from twinforks.courses import many_of_each
from twinforks.errors import BadIndex
from twinforks.nets import check_net
from twinforks.things import check_most, is_number
from twinforks.walking import spread_out


def askers_of(wiring, cell, most):
    """All that the asker from a cell goes on as, None if they have more than most passings."""
    return spread_out(asker_from(wiring, cell), most)


def cells_met(askers):
    """The cells that askers meet."""
    return [asker.work.cell_at(asker.place) for asker in askers if asker.fare() != "out"]


def met_ahead(net, index, most):
    """The indexes of the cells that the asker from one meets, None if it has more than most passings."""
    check_net(net)
    if not is_number(index) or index >= len(net.cells()):
        raise BadIndex(index)
    check_most(most)
    askers = askers_of(net.wiring(), index, most)
    return None if askers is None else cells_met(askers)


def sorts_met(net, most):
    """The sorts of all that the askers from all cells meet, None if they have more than most passings together."""
    wiring = net.wiring()
    sorts = []
    left = most
    for cell, kind in enumerate(wiring.kinds):
        askers = askers_of(wiring, cell, left)
        if askers is None:
            return None
        left -= sum([len(asker.passings) for asker in askers])
        sorts.extend([tuple(sorted([kind, wiring.kinds[other]])) for other in cells_met(askers)])
    return sorts


def count_ahead(net, most):
    """Half the number of all that the askers from all cells meet."""
    check_net(net)
    check_most(most)
    sorts = sorts_met(net, most)
    return None if sorts is None else len(sorts) // 2


def sorts_ahead(net, most):
    """Half the numbers of all that the askers from all cells meet, sort by sort."""
    check_net(net)
    check_most(most)
    sorts = sorts_met(net, most)
    if sorts is None:
        return None
    many = many_of_each(sorts)
    return {sort: many[sort] // 2 for sort in many}
