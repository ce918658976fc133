"""Steps of open nets: growing, shrinking, turning."""

from twinforks.errors import BadStep
from twinforks.leaves import check_open
from twinforks.nets import net_of_wiring
from twinforks.stepwork import StepWork


def is_step(net, thing):
    """Whether any object is a step that can be done."""
    check_open(net)
    return StepWork(net.wiring()).do_one(thing)


def step_done(net, step):
    """The work behind a step, BadStep for what is none."""
    check_open(net)
    work = StepWork(net.wiring())
    if not work.do_one(step):
        raise BadStep(step)
    return work


def stepped(net, step):
    """The net behind a step."""
    return net_of_wiring(step_done(net, step).work)


def undone(net, step):
    """The step that leads back from the net behind a step."""
    return step_done(net, step).step_back()


def grows_at(net, work):
    """The grows that can be done, wire by wire."""
    told = []
    for wire in net.wires():
        if work.can_grow(net.first_place(wire)):
            told.extend([("grow", "x", wire), ("grow", "y", wire)])
    return told


def steps_at(net):
    """All steps that can be done."""
    check_open(net)
    work = StepWork(net.wiring())
    cells = list(range(len(net.cells())))
    told = grows_at(net, work)
    told.extend([("shrink", cell) for cell in cells if work.can_shrink(cell)])
    told.extend([("turn", cell) for cell in cells if work.can_turn(cell)])
    told.append(("loop",))
    if net.loops() > 0:
        told.append(("unloop",))
    return told
