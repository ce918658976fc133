"""Nets that tests share."""

from chances import Chance, make_net, some_table
from twinforks.nets import Net
from twinforks.resting import rest
from twinforks.steps import stepped, steps_at
from twinforks.tables import net_of

OPENING = Net(["a", "b"], [("x", "w", "a", "c"), ("x", "w", "b", "c")], [])
GROWING = Net(["a", "b"], [("x", "w", "v", "a"), ("y", "w", "v", "b")], [])
THREE = Net([], [("x", "w", "a", "a"), ("y", "w", "b", "b")], [])
NOTHING = Net([], [], [])
# It comes round to itself with a loop more.
LOOPING = Net([], [("stop", "w1"), ("y", "w2", "w1", "w3"), ("y", "w4", "w5", "w2"), ("y", "w6", "w4", "w3"), ("x", "w7", "w8", "w5"),
                   ("x", "w6", "w8", "w7")], [])
AT_REST = Net(["a"], [("x", "a", "p", "p")], [])
AWAY = Net(["a"], [("x", "p", "p", "a")], [])
WIRE = Net(["a", "b"], [], [("a", "b")])
# The top figure of x exchanged.
CROSSED = Net(["a", "b"], [("x", "a", "p", "q"), ("x", "b", "q", "p")], [])
HALVES = Net(["a", "b"], [("x", "a", "p", "q"), ("y", "b", "p", "r"), ("stop", "q"), ("stop", "r")], [])
# Two forks whose backs lead to a leg of the other one, with what hangs on them, a closed part and a loop.
RINGS = Net(["a", "b", "c"], [("x", "a", "p", "q"), ("stop", "p"), ("x", "r", "q", "s"), ("y", "s", "r", "b"), ("x", "m", "m", "c"),
                              ("y", "n", "n", "o"), ("stop", "o")], [("l", "l")])


def nets(many, cells=8, kinds=("x", "y", "stop")):
    """Nets by chance, in which something meets."""
    told = []
    seed = 0
    while len(told) < many:
        chance = Chance(seed)
        net = make_net(chance, chance.below(5), 2 + chance.below(cells), 2, kinds)
        if net.meeting_pairs():
            told.append(net)
        seed += 1
    return told


def resting_nets(many, most=60, cells=8, least=2):
    """Nets by chance that come to rest, behind some meetings, least ones and most ones told."""
    told = []
    for net in nets(many * 12, cells):
        found = rest(net, most)
        if found is not None and found[1] >= least:
            told.append(net)
    return told[:many]


def wander(net, chance, many, most=30):
    """An open net behind steps by chance, with at most so many cells, but for a few."""
    for _ in range(many):
        steps = steps_at(net)
        if len(net.cells()) >= most:
            steps = [step for step in steps if step[0] != "grow"]
        word = chance.one_of(sorted({step[0] for step in steps}))
        net = stepped(net, chance.one_of([step for step in steps if step[0] == word]))
    return net


def open_nets(many, most_ends=4, boxes=8, steps=6):
    """Open nets by chance: of tables, then behind some steps."""
    told = []
    for seed in range(many):
        chance = Chance(seed + 1000)
        ends = ["a", "b", "c", "d", "e", "f"][:1 + chance.below(most_ends)]
        told.append(wander(net_of(ends, *some_table(chance, ends, 2 + chance.below(boxes))), chance, chance.below(steps + 1)))
    return told


def still_nets(many, cells=8):
    """Nets at rest by chance, with rings, closed parts and loops in some of them."""
    told = []
    seed = 0
    while len(told) < many:
        chance = Chance(seed)
        found = rest(make_net(chance, chance.below(5), 2 + chance.below(cells), 2, ("x", "y", "x", "y", "stop")), 60)
        if found is not None:
            told.append(found[0])
        seed += 1
    return told
