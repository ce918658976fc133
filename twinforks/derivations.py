"""Derivations: steps that lead from one open net to another."""

from twinforks.leaves import check_other, open_grove
from twinforks.nets import net_of_wiring
from twinforks.pairings import unlike_goals
from twinforks.stepwork import OTHER_KIND, StepWork
from twinforks.things import is_list


class Shaper:
    """Does steps on a net's wiring and tells them, each as it is called where it is done."""

    def __init__(self, net):
        self.steps = StepWork(net.wiring())
        self.work = self.steps.work
        self.told = []

    def grow(self, place, kind):
        self.told.append(("grow", kind, self.steps.wire_name(place)))
        self.steps.grow(place, kind)

    def shrink(self, cell):
        self.told.append(("shrink", self.steps.order().index(cell)))
        self.steps.shrink(cell)

    def turn(self, cell):
        self.told.append(("turn", self.steps.order().index(cell)))
        self.steps.turn(cell)

    def legs_behind(self, place):
        """The places of the legs of the fork to whose back a wire leads."""
        return self.steps.leg_places(self.steps.cell_behind(place))

    def pull_up(self, place, kind):
        """Lets a fork of a kind stand where what hangs at a place begins: it grows at leaves and is turned down to
        the place, fork by fork.
        """
        others = []
        left = [place]
        while len(left) > 0:
            at = left.pop()
            here = self.steps.kind_behind(at)
            if here == OTHER_KIND[kind]:
                others.append(self.steps.cell_behind(at))
                left.extend(self.legs_behind(at))
            elif here != kind:
                self.grow(at, kind)
        for cell in reversed(others):
            self.turn(cell)

    def make_room(self, grove, box):
        """Lets the forks on the way to a leaf of another net's tree stand here, too; tells the place of the leaf."""
        goal_steps = StepWork(grove.work)
        here = there = grove.work.names.index(box[0])
        rows = {"x": box[1], "y": box[2]}
        while goal_steps.kind_behind(there) in OTHER_KIND:
            kind = goal_steps.kind_behind(there)
            self.pull_up(here, kind)
            figure = int(rows[kind][0])
            rows[kind] = rows[kind][1:]
            here = self.legs_behind(here)[figure]
            there = goal_steps.leg_places(goal_steps.cell_behind(there))[figure]
        return here

    def clear_stops(self, place):
        """Lets one stop stand in the place of what hangs at a place, all of whose leaves lead to stops."""
        forks = []
        left = [place]
        while len(left) > 0:
            at = left.pop()
            if self.steps.kind_behind(at) in OTHER_KIND:
                forks.append(self.steps.cell_behind(at))
                left.extend(self.legs_behind(at))
        for cell in reversed(forks):
            self.shrink(cell)

    def clear_pair(self, place, other):
        """Lets one wire stand in the place of what hangs at two places, the leaves of which lead to one another."""
        forks = []
        left = [(place, other)]
        while len(left) > 0:
            at, other_at = left.pop()
            kind = self.steps.kind_behind(at)
            if kind in OTHER_KIND:
                self.pull_up(other_at, kind)
                forks.append(self.steps.cell_behind(at))
                left.extend([(one, two) for one, two in zip(self.legs_behind(at), self.legs_behind(other_at))])
        for cell in reversed(forks):
            self.shrink(cell)

    def shape(self, grove):
        """Gives the net the trees of another one with the same pairing, leaf by leaf."""
        for leaf, box in enumerate(grove.boxes):
            other = grove.partner(leaf)
            if other is None:
                self.clear_stops(self.make_room(grove, box))
            elif other > leaf:
                place = self.make_room(grove, box)
                self.clear_pair(place, self.make_room(grove, grove.boxes[other]))

    def shrink_all(self):
        """Shrinks what can be shrunk; tells the steps that lead back, the first one first."""
        back = []
        cell = self.first_shrink()
        while cell is not None:
            self.shrink(cell)
            back = [self.steps.step_back(), *back]
            cell = self.first_shrink()
        return back

    def first_shrink(self):
        for cell in self.steps.order():
            if self.steps.can_shrink(cell):
                return cell
        return None

    def make_loops(self, many):
        """Lets the net have as many loops."""
        wiring = self.work
        more = many - wiring.circles
        self.told.extend([("loop",)] * more + [("unloop",)] * -more)
        wiring.circles = many


def derivation(net, other):
    """Steps that lead from an open net to another one, None if there are none."""
    grove = open_grove(net)
    check_other(net, other)
    if len(unlike_goals(grove, open_grove(other))) > 0:
        return None
    # Both are shrunk first, so that no more has to be shaped than is unlike in them.
    shaper = Shaper(net)
    shaper.shrink_all()
    goal = Shaper(other)
    back = goal.shrink_all()
    shaper.shape(open_grove(net_of_wiring(goal.work)))
    shaper.make_loops(goal.work.circles)
    return shaper.told + back


def derivation_wrong(net, other, thing):
    """What is wrong with any object as a derivation from one net to another, None if it is one."""
    open_grove(net)
    check_other(net, other)
    open_grove(other)
    if not is_list(thing):
        return ("form",)
    work = StepWork(net.wiring())
    for at, step in enumerate(thing):
        if not work.do_one(step):
            return "step", at
    if net_of_wiring(work.work) != other:
        return ("end",)
    return None


def is_derivation(net, other, thing):
    """Whether any object is a derivation."""
    return derivation_wrong(net, other, thing) is None
