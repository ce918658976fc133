"""Papers: the texts by which anybody can audit."""

from twinforks.asking import drawn
from twinforks.compiled import net_of_program
from twinforks.derivations import derivation
from twinforks.nets import check_net, net_of_wiring
from twinforks.partings import parting
from twinforks.papertexts import course_text, steps_text
from twinforks.plantexts import net_text
from twinforks.programtexts import program_text
from twinforks.resting import course_to_rest
from twinforks.stills import pairs, shut
from twinforks.surroundings import surrounded
from twinforks.tabletexts import table_text
from twinforks.things import check_most
from twinforks.walking import box_walker
from twinforks.waytexts import way_text


def rest_paper(net, most):
    """The texts for audit_rest, None if the net has more than most meetings."""
    check_net(net)
    check_most(most)
    found = course_to_rest(net, most)
    if found is None:
        return None
    wiring, course = found
    return net_text(net), course_text(course), net_text(net_of_wiring(wiring))


def passings_of(net, box, most):
    """The passings of the walker of a box, which is not under way behind most."""
    walker = box_walker(net, box)
    walker.go_far(most)
    return walker.passings


def pairing_paper(net, most):
    """The texts for audit_pairing, None if what is asked from some end has more than most passings."""
    found = drawn(net, most)
    if found is None:
        return None
    # Each pair is told from either side; one of them will do.
    table = []
    for box, goal in pairs(found):
        if (goal, box) not in table:
            table.append((box, goal))
    stopped = shut(found)
    passings = []
    for box in [pair[0] for pair in table] + stopped:
        passings.extend(passings_of(net, box, most))
    return net_text(net), table_text(net.ends(), table, stopped), way_text(passings)


def alike_paper(net, other):
    """The texts for audit_alike, None if no derivation leads from one open net to the other."""
    steps = derivation(net, other)
    if steps is None:
        return None
    return net_text(net), net_text(other), steps_text(steps)


def parted_paper(net, other):
    """The texts for audit_parted, the net that comes to the bare wire first; None if nothing parts two open nets."""
    found = parting(net, other)
    if found is None:
        return None
    which, surroundings = found
    nets = [net, other] if which == 0 else [other, net]
    courses = [course_to_rest(surrounded(one, surroundings), None)[1] for one in nets]
    return (*[net_text(one) for one in nets], net_text(surroundings), *[course_text(course) for course in courses])


def compiled_paper(program):
    """The texts for audit_compiled."""
    return program_text(program), net_text(net_of_program(program))
