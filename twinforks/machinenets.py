"""Machines made nets."""

from twinforks.machines import check_machine
from twinforks.nets import net_of_wiring
from twinforks.wirings import wired

# For each move the kinds of the two forks at the door's and at the eye's side.
MOVERS = {"right": ("y", "x"), "left": ("x", "y"), "stay": ()}


class MachineBench:
    """The cells of a machine's states. Wires are tuples that begin with the state's name, or "in" and "out"."""

    def __init__(self, machine):
        names = [name for name, _ in machine.states()]
        self.first = names[0]
        self.last = names[-1]
        self.rows = []
        self.joined_wires = []
        # For each leg of a door or an eye that a rule joins the wire there.
        self.ruled = {}
        for state, read, written, after in machine.rules():
            self.ruled[(state, "eye", read)] = (state, "rule", read)
            self.ruled[(after, "door", written)] = (state, "rule", read)

    def legs(self, state, word):
        """The wires at the legs of a door or an eye, a stop at each without a rule."""
        told = []
        for figure in (0, 1):
            place = (state, word, figure)
            told.append(self.ruled.get(place, place))
            if place not in self.ruled:
                self.rows.append(("stop", place))
        return told

    def put_state(self, state, move):
        """Puts in a state's door and eye, and what moves between their backs."""
        start = "in" if state == self.first else (state, "entered")
        goal = "out" if state == self.last else (state, "moved")
        if state != self.first:
            self.rows.append(("y", start, *self.legs(state, "door")))
        if state != self.last:
            self.rows.append(("y", goal, *self.legs(state, "eye")))
        if move == "stay":
            self.joined_wires.append((start, goal))
        else:
            between = [(state, "between", figure) for figure in (0, 1)]
            for kind, back in zip(MOVERS[move], (start, goal)):
                self.rows.append((kind, back, *between))


def machine_net(machine):
    """As net_of_machine, of what is known to be a machine."""
    bench = MachineBench(machine)
    for state, move in machine.states():
        bench.put_state(state, move)
    return net_of_wiring(wired(["in", "out"], bench.rows, bench.joined_wires))


def net_of_machine(machine):
    """The net of a machine, with the ends in and out."""
    check_machine(machine)
    return machine_net(machine)
