"""What programs do for all contents of the piles."""

from twinforks.compiled import compiled_net
from twinforks.errors import BadOther
from twinforks.forms import figures_of
from twinforks.leaves import grove_of
from twinforks.nets import net_of_wiring
from twinforks.pairings import unlike_goals
from twinforks.programs import check_program, is_program
from twinforks.resting import met_out
from twinforks.stills import cut_or_leaf
from twinforks.things import check_most


def grove_of_program(program, most):
    """The trees of a program's net at rest, None if it has more than most meetings."""
    found = met_out(compiled_net(program), most)
    return None if found is None else grove_of(net_of_wiring(found[0]))


def answer_in(grove, leaf, s, t):
    """What becomes of all runs whose piles begin with s and t, strings, within a leaf's box."""
    goal = grove.goal(leaf, s, t)
    if goal is not None:
        return "out", figures_of(goal[1]), figures_of(goal[2])
    return ("stopped",) if grove.node_of(leaf) == "stop" else ("endless",)


def meaning(program, most):
    """The rows (s, t, answer) that tell a program for all contents, None if its net has more than most meetings."""
    check_program(program)
    check_most(most)
    grove = grove_of_program(program, most)
    if grove is None:
        return None
    told = []
    for leaf in grove.leaves_at(0):
        _, s, t = grove.boxes[leaf]
        told.append((figures_of(s), figures_of(t), answer_in(grove, leaf, s, t)))
    return told


def programs_alike(program, other, most):
    """Whether two programs do the same, or what parts them; None if one of their nets has more than most meetings."""
    check_program(program)
    if not is_program(other):
        raise BadOther(other)
    check_most(most)
    groves = [grove_of_program(one, most) for one in (program, other)]
    if None in groves:
        return None
    # No run comes out at in, so what differs at out does so at in, and that is told first.
    found = unlike_goals(groves[0], groves[1])
    if len(found) == 0:
        return ("alike",)
    end, s, t = found[0][0]
    answers = [answer_in(grove, cut_or_leaf(grove, end, s, t), s, t) for grove in groves]
    return "parted", figures_of(s), figures_of(t), answers[0], answers[1]
