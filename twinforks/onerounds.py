"""Any program and any machine as one round about an in-out table."""

from twinforks.compiled import compiled_net
from twinforks.forms import figures_of
from twinforks.machinenets import machine_net
from twinforks.machines import check_machine
from twinforks.programs import back_program, rounds_in
from twinforks.tableprograms import in_out_program, puts_of, takes_of


class Tour:
    """The wires of a net along which runs go, each told by the place that they come to, in the order in which they are
    come to; and the passings there: (place, what is taken, next place, what is put), a kind with a figure, or None.
    """

    def __init__(self, wiring):
        self.work = wiring
        self.found = [wiring.mates[0]]
        self.passings = []
        at = 0
        while at < len(self.found):
            self.pass_at(self.found[at])
            at += 1

    def pass_at(self, place):
        wiring = self.work
        if wiring.is_end(place) or wiring.kinds[wiring.cell_at(place)] == "stop":
            return
        kind = wiring.kinds[wiring.cell_at(place)]
        leg = wiring.leg_at(place)
        if leg > 0:
            self.go_on(place, None, wiring.mates[place - leg], (kind, leg - 1))
        else:
            for figure in (0, 1):
                self.go_on(place, (kind, figure), wiring.mates[place + 1 + figure], None)

    def go_on(self, place, taken, behind, put):
        self.passings.append((place, taken, behind, put))
        if behind not in self.found:
            self.found.append(behind)

    def numeral(self, place):
        """The number of a wire, as many figures for each."""
        number = self.found.index(place)
        width = (len(self.found) - 1).bit_length()
        return "".join([str((number >> shift) & 1) for shift in range(width)])

    def side_of(self, flag, place, moved):
        """What the piles begin with where a run is on a wire, one figure more on one of them."""
        piles = {"x": flag + self.numeral(place), "y": ""}
        if moved is not None:
            piles[moved[0]] = piles[moved[0]] + str(moved[1])
        return figures_of(piles["x"]), figures_of(piles["y"])

    def in_out_table(self):
        """The in-out table of all passings. Ahead of a wire's number stands the round's figure: 0 where it begins, and
        where it ends, else 1.
        """
        told = []
        for place, taken, behind, put in self.passings:
            begun = "0" if place == self.work.mates[0] else "1"
            ended = "0" if behind == 1 else "1"
            told.append((self.side_of(begun, place, taken), self.side_of(ended, behind, put)))
        return told

    def program(self):
        """One round that does a passing each time."""
        start = puts_of(self.numeral(self.work.mates[0]), "x")
        goal = takes_of(self.numeral(1), "x") if 1 in self.found else []
        return [*start, ("round", "x", in_out_program(self.in_out_table()), "x"), *goal]


def one_round(program):
    """A program with one round at most, and none within it, that does what another one does."""
    if rounds_in(program) <= 1:
        # Gone back twice it is the same once more.
        return back_program(back_program(program))
    return Tour(compiled_net(program).wiring()).program()


def program_of_machine(machine):
    """A program with one round that does what a machine does, left on x and right on y."""
    check_machine(machine)
    return Tour(machine_net(machine).wiring()).program()
