"""Nets made of forks, stops and wires by tying two ends at a time."""

from twinforks.nets import check_net


class Builder:
    """The deeds that build a net, and names of ends that are tied later, none of them an end's of the net."""

    def __init__(self, net):
        self.told = []
        self.kept = net.ends()
        self.number = 0

    def fresh_name(self):
        self.number += 1
        while f"t{self.number}" in self.kept:
            self.number += 1
        return f"t{self.number}"

    def lay_wire(self, one, other):
        self.told.append(("wire", one, other))
        return other

    def lay_cell(self, kind, many):
        """Puts a cell in; tells the names at its places."""
        names = [self.fresh_name() for _ in range(many)]
        self.told.append(("stop", *names) if kind == "stop" else ("fork", kind, *names))
        return names

    def tie(self, one, other):
        self.told.append(("tie", one, other))


def building(net):
    """The deeds that lead a new session to a net."""
    check_net(net)
    builder = Builder(net)
    # Ends are laid first, each as a wire of which the other end is tied: so they stand in their order.
    at_wire = {}
    for end in net.ends():
        at_wire[end] = [builder.lay_wire(end, builder.fresh_name())]
    for cell in net.cells():
        for wire, name in zip(cell[1:], builder.lay_cell(cell[0], len(cell) - 1)):
            at_wire.setdefault(wire, []).append(name)
    for one, other in net.joins():
        at_wire[one].append(at_wire.pop(other)[0])
    for _ in range(net.loops()):
        one = builder.fresh_name()
        at_wire[one] = [one, builder.lay_wire(one, builder.fresh_name())]
    for one, other in at_wire.values():
        builder.tie(one, other)
    return builder.told
