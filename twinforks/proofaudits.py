"""Audits of derivations, partings and compiled programs by texts alone."""

from twinforks.auditing import first_wrong_text
from twinforks.compiled import compiled_net
from twinforks.courses import CourseWork
from twinforks.derivations import derivation_wrong
from twinforks.nets import net_of_wiring
from twinforks.papertexts import course_fault, read_course, read_steps, steps_fault
from twinforks.plantexts import plan_fault, read_net
from twinforks.programtexts import program_fault, read_program
from twinforks.stills import is_open
from twinforks.surroundings import fare_of, is_surroundings_of, surrounded


def audit_alike(net, other, steps):
    """What is wrong with texts that say that steps lead from one open net to another."""
    wrong = first_wrong_text([plan_fault(net), plan_fault(other), steps_fault(steps)])
    if wrong is not None:
        return wrong
    nets = [read_net(net), read_net(other)]
    if not is_open(nets[0]):
        return "end", 0
    if not is_open(nets[1]) or nets[1].ends() != nets[0].ends():
        return "end", 1
    found = derivation_wrong(nets[0], nets[1], read_steps(steps))
    if found is None:
        return None
    return ("line", 2, found[1]) if found[0] == "step" else ("end", 2)


def audit_parted(net, other, surroundings, course, second):
    """What is wrong with texts that say that surroundings part two nets, and by which courses."""
    wrong = first_wrong_text([plan_fault(net), plan_fault(other), plan_fault(surroundings), course_fault(course),
                              course_fault(second)])
    if wrong is not None:
        return wrong
    nets = [read_net(net), read_net(other)]
    around = read_net(surroundings)
    if nets[1].ends() != nets[0].ends():
        return "end", 1
    if not is_surroundings_of(nets[0].ends(), around):
        return "end", 2
    for at, fare in enumerate(("wire", "stops")):
        work = CourseWork(surrounded(nets[at], around).wiring())
        found = work.first_wrong(read_course((course, second)[at]), True)
        if found is not None:
            return "line", 3 + at, found
        if fare_of(net_of_wiring(work.work)) != fare:
            return "end", 3 + at
    return None


def audit_compiled(program, net):
    """What is wrong with texts that say that a net is a program's."""
    wrong = first_wrong_text([program_fault(program), plan_fault(net)])
    if wrong is not None:
        return wrong
    return None if compiled_net(read_program(program)) == read_net(net) else ("end", 1)
