"""Programs made nets."""

from twinforks.nets import net_of_wiring
from twinforks.programs import check_program
from twinforks.wirings import wired


class Compiler:
    """Puts in the cells of deeds between wires, which are numbers, or "in" and "out", the ends."""

    def __init__(self):
        self.rows = []
        self.joined_wires = []
        self.fresh = 0
        # Programs that are still to be put in, each with the wires at its in and its out.
        self.left = []

    def wire(self):
        self.fresh += 1
        return self.fresh

    def put_program(self, program, start, goal):
        """Puts in the deeds one behind another, the programs within them later."""
        if len(program) == 0:
            self.joined_wires.append((start, goal))
        for at, deed in enumerate(program):
            behind = goal if at == len(program) - 1 else self.wire()
            self.put_deed(deed, start, behind)
            start = behind

    def put_deed(self, deed, start, goal):
        word = deed[0]
        if word == "put":
            self.put_shut_fork(deed[2], goal, deed[1], start)
        elif word == "take":
            self.put_shut_fork(deed[2], start, deed[1], goal)
        elif word == "turn":
            legs = [self.wire(), self.wire()]
            self.rows.append((deed[1], start, legs[0], legs[1]))
            self.rows.append((deed[1], goal, legs[1], legs[0]))
        elif word == "by":
            self.put_by(deed, start, goal)
        elif word == "round":
            self.put_round(deed, start, goal)
        else:
            self.rows.extend([("stop", start), ("stop", goal)])

    def put_shut_fork(self, kind, back, figure, leg):
        """A fork with a stop at the leg that is not the figure's."""
        other = self.wire()
        legs = (leg, other) if figure == 0 else (other, leg)
        self.rows.extend([(kind, back, *legs), ("stop", other)])

    def put_by(self, deed, start, goal):
        starts = [self.wire(), self.wire()]
        goals = [self.wire(), self.wire()]
        self.rows.append((deed[1], start, *starts))
        self.rows.append((deed[4], goal, *goals))
        for figure in (0, 1):
            self.left.append((deed[2 + figure], starts[figure], goals[figure]))

    def put_round(self, deed, start, goal):
        again = self.wire()
        inner_start = self.wire()
        inner_goal = self.wire()
        self.rows.append((deed[1], inner_start, start, again))
        self.rows.append((deed[3], inner_goal, goal, again))
        self.left.append((deed[2], inner_start, inner_goal))

    def put_all(self):
        while len(self.left) > 0:
            program, start, goal = self.left.pop()
            self.put_program(program, start, goal)


def compiled_net(program):
    """As net_of_program, of what is known to be a program."""
    compiler = Compiler()
    compiler.put_program(program, "in", "out")
    compiler.put_all()
    return net_of_wiring(wired(["in", "out"], compiler.rows, compiler.joined_wires))


def net_of_program(program):
    """The net of a program, with the ends in and out."""
    check_program(program)
    return compiled_net(program)
