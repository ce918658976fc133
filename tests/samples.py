"""Nets that tests share."""

from chances import Chance, make_net
from twinforks.nets import Net
from twinforks.resting import rest

OPENING = Net(["a", "b"], [("x", "w", "a", "c"), ("x", "w", "b", "c")], [])
GROWING = Net(["a", "b"], [("x", "w", "v", "a"), ("y", "w", "v", "b")], [])
THREE = Net([], [("x", "w", "a", "a"), ("y", "w", "b", "b")], [])
NOTHING = Net([], [], [])
# It comes round to itself with a loop more.
LOOPING = Net([], [("stop", "w1"), ("y", "w2", "w1", "w3"), ("y", "w4", "w5", "w2"), ("y", "w6", "w4", "w3"), ("x", "w7", "w8", "w5"),
                   ("x", "w6", "w8", "w7")], [])
AT_REST = Net(["a"], [("x", "a", "p", "p")], [])


def nets(many, cells=8, kinds=("x", "y", "stop")):
    """Nets by chance, in which something meets."""
    told = []
    seed = 0
    while len(told) < many:
        chance = Chance(seed)
        net = make_net(chance, chance.below(5), 2 + chance.below(cells), 2, kinds)
        if net.meeting_pairs():
            told.append(net)
        seed += 1
    return told


def resting_nets(many, most=60, cells=8, least=2):
    """Nets by chance that come to rest, behind some meetings, least ones and most ones told."""
    told = []
    for net in nets(many * 12, cells):
        found = rest(net, most)
        if found is not None and found[1] >= least:
            told.append(net)
    return told[:many]
