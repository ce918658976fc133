"""Texts of plans and nets."""

from twinforks.nets import check_net
from twinforks.planreading import PlanReader
from twinforks.plans import Plan, check_plan
from twinforks.scanning import check_fault, fault_of, going_on, lines_of
from twinforks.unrolling import unrolled


def line(words):
    return " ".join(words) + "\n"


def item_line(item):
    if item[0] == "use":
        return line(["use", item[1], *item[2]])
    return line(item)


def block_text(words, items):
    """A line of words, then the items'."""
    return line(words) + "".join([item_line(item) for item in items])


def plan_text(plan):
    """The text of a plan."""
    check_plan(plan)
    blocks = [block_text(["part", name, *ends], items) for name, ends, items in plan.parts()]
    return "".join(blocks) + block_text(["net", *plan.ends()], plan.body())


def net_text(net):
    """The text of a net, as a plan without parts."""
    check_net(net)
    joins = [("join", one, other) for one, other in net.joins()]
    return block_text(["net", *net.ends()], net.cells() + joins + [("loop",)] * net.loops())


def item_of(words):
    if words[0] == "use":
        return ("use", words[1], words[2:])
    return tuple(words)


def read_plan(text):
    """The plan of a text."""
    check_fault(plan_fault(text))
    parts = []
    ends = []
    items = []
    for words in lines_of(text):
        if words[0] == "part":
            items = []
            parts.append((words[1], words[2:], items))
        elif words[0] == "net":
            items = []
            ends = words[1:]
        else:
            items.append(item_of(words))
    return Plan(parts, ends, items)


def read_net(text):
    """The net of a plan's text."""
    return unrolled(read_plan(text))


def plan_fault(text):
    """The index of the first wrong sign of any object, None for a plan's text."""
    return fault_of(PlanReader(), text)


def plan_goes_on(text):
    """A plan's text that begins with any object, None if there is none."""
    return going_on(PlanReader(), text)
