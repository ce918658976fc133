"""The deeds of a session: their forms, and what they do to its net."""

from twinforks.errors import NotNow
from twinforks.meetings import is_meeting, met
from twinforks.papertexts import is_step_form
from twinforks.plantexts import plan_fault, read_net, read_plan
from twinforks.plugging import assembled, closed, plugged, renamed
from twinforks.questions import MOST_MEETINGS, question_told
from twinforks.resting import rest
from twinforks.steps import is_step, stepped
from twinforks.stills import is_open
from twinforks.things import are_names, is_list, is_number

# How many parts a deed of each word has.
PARTS = {"fork": 5, "stop": 2, "wire": 3, "lay": 2, "tie": 3, "name": 3, "meet": 3, "rest": 1, "step": 2, "watch": 2,
         "hold": 2, "free": 2}
ASKING = ("watch", "hold", "free")


def is_deed(thing):
    """Whether any object is a deed by its form."""
    if not is_list(thing) or len(thing) == 0 or not isinstance(thing[0], str):
        return False
    word = thing[0]
    if PARTS.get(word, 0) != len(thing):
        return False
    if word == "fork":
        return thing[1] in ("x", "y") and are_names(thing[2:])
    if word in ("stop", "wire", "tie", "name"):
        return are_names(thing[1:])
    if word == "lay":
        return plan_fault(thing[1]) is None
    if word == "meet":
        return is_number(thing[1]) and is_number(thing[2])
    return word != "step" or is_step_form(thing[1])


def deed_told(deed):
    """A deed as it is kept and told, made of new lists; its question is one."""
    if deed[0] in ASKING:
        return deed[0], question_told(deed[1])
    if deed[0] == "step":
        return "step", tuple(deed[1])
    return tuple(deed)


def names_told(deed):
    """The names that a deed tells."""
    if deed[0] == "fork":
        return list(deed[2:])
    return list(deed[1:]) if deed[0] in ("stop", "wire", "tie", "name") else []


def old_names(deed):
    """The names that should be ends."""
    if deed[0] == "name":
        return [deed[1]]
    return names_told(deed) if deed[0] == "tie" else []


def new_names(deed):
    """The names that should be no ends."""
    if deed[0] == "lay":
        return read_plan(deed[1]).ends()
    return [name for name in names_told(deed) if name not in old_names(deed)]


def check_names(net, deed):
    """All names of a deed have to be ends, or no ends."""
    told = names_told(deed)
    for at, name in enumerate(told):
        if name in told[:at]:
            raise NotNow(("same", name))
    for name in old_names(deed):
        if name not in net.ends():
            raise NotNow(("none", name))
    for name in new_names(deed):
        if name in net.ends():
            raise NotNow(("end", name))


def with_cells(net, cells, names):
    """The net with cells more, or a wire, whose wires are called like its new ends, which these names are."""
    led = [(end, (0, end)) for end in net.ends()]
    led.extend([(end, (1, wire)) for end, wire in names])
    return assembled([net], led, [(cell[0], *[(1, wire) for wire in cell[1:]]) for cell in cells], [])


def net_built(net, deed):
    """The net behind a deed that adds to it or wires it otherwise."""
    word = deed[0]
    if word == "lay":
        return plugged(net, read_net(deed[1]), [])
    if word == "tie":
        return closed(net, [(deed[1], deed[2])])
    if word == "name":
        names = {end: end for end in net.ends()}
        names[deed[1]] = deed[2]
        return renamed(net, names)
    if word == "wire":
        return with_cells(net, [], [(deed[1], deed[1]), (deed[2], deed[1])])
    cell = tuple(deed[1:]) if word == "fork" else ("stop", deed[1])
    return with_cells(net, [cell], [(name, name) for name in cell[1:]])


def net_behind(net, deed):
    """The net behind a deed, NotNow for one that can't be done."""
    word = deed[0]
    if word in ASKING:
        return net
    check_names(net, deed)
    if word == "meet":
        pair = (deed[1], deed[2])
        if not is_meeting(net, pair):
            raise NotNow(("apart", *pair))
        return met(net, pair)
    if word == "rest":
        found = rest(net, MOST_MEETINGS)
        if found is None:
            raise NotNow(("on",))
        return found[0]
    if word == "step":
        if not is_open(net) or not is_step(net, deed[1]):
            raise NotNow(("step", tuple(deed[1])))
        return stepped(net, deed[1])
    return net_built(net, deed)
