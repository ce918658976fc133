"""Audits of rests, walks and pairings by texts alone."""

from twinforks.auditing import first_wrong_text, net_table_fault
from twinforks.boxrooms import is_filled
from twinforks.courses import CourseWork
from twinforks.forms import signs_of
from twinforks.nets import net_of_wiring
from twinforks.nevers import never_wrong
from twinforks.papertexts import course_fault, read_course
from twinforks.plantexts import plan_fault, read_net
from twinforks.stills import is_still
from twinforks.tabletexts import table_lines
from twinforks.walking import box_walker
from twinforks.ways import first_other_passing
from twinforks.waytexts import read_way, way_fault


def audit_rest(net, course, goal):
    """What is wrong with texts that say that a course leads from a net to a net at rest."""
    wrong = first_wrong_text([plan_fault(net), course_fault(course), plan_fault(goal)])
    if wrong is not None:
        return wrong
    work = CourseWork(read_net(net).wiring())
    at = work.first_wrong(read_course(course), True)
    if at is not None:
        return "line", 1, at
    behind = net_of_wiring(work.work)
    if behind != read_net(goal) or not is_still(behind):
        return "end", 2
    return None


def fares_as_told(walker, goal):
    """Whether a walker has come out with a box, or is stopped where the box is None."""
    if goal is None:
        return walker.fare() == "stopped"
    return walker.fare() == "out" and walker.box_here() == goal


def audit_walk(net, goes, way):
    """What is wrong with texts that say how the walker of a box fares."""
    wrong = first_wrong_text([plan_fault(net), net_table_fault(net, goes), way_fault(way)])
    if wrong is not None:
        return wrong
    lines = table_lines(goes)
    if len(lines) != 1:
        return "end", 1
    box, goal = lines[0]
    walker = box_walker(read_net(net), box)
    at = first_other_passing(walker, read_way(way))
    if at is not None:
        return "line", 2, at
    return None if fares_as_told(walker, goal) else ("end", 1)


def audit_never(net, shut, way, again):
    """What is wrong with texts that say that the walker of a box never comes out."""
    wrong = first_wrong_text([plan_fault(net), net_table_fault(net, shut), way_fault(way), way_fault(again)])
    if wrong is not None:
        return wrong
    lines = table_lines(shut)
    if len(lines) != 1 or lines[0][1] is not None:
        return "end", 1
    passings = read_way(way)
    found = never_wrong(read_net(net), (lines[0][0], passings, read_way(again)))
    if found is None:
        return None
    if found[0] != "passing":
        return "end", 3
    if found[1] < len(passings):
        return "line", 2, found[1]
    return "line", 3, found[1] - len(passings)


def first_wrong_line(net, lines, passings):
    """Lets the walkers of lines' boxes go along passings, one behind another; what is wrong first, None if nothing."""
    at = 0
    for number, (box, goal) in enumerate(lines):
        walker = box_walker(net, box)
        while at < len(passings) and walker.fare() not in ("out", "stopped"):
            if not walker.go_as(passings[at]):
                return "line", 2, at
            at += 1
        if not fares_as_told(walker, goal):
            return "line", 1, number
    return ("line", 2, at) if at < len(passings) else None


def are_all_addresses(ends, boxes):
    """Whether each address of ends lies in one of the boxes, which are apart."""
    for end in ends:
        if not is_filled([(signs_of(box[1]), signs_of(box[2])) for box in boxes if box[0] == end], "", ""):
            return False
    return True


def audit_pairing(net, table, ways):
    """What is wrong with texts that say where all walkers come out."""
    wrong = first_wrong_text([plan_fault(net), net_table_fault(net, table), way_fault(ways)])
    if wrong is not None:
        return wrong
    audited = read_net(net)
    lines = table_lines(table)
    found = first_wrong_line(audited, lines, read_way(ways))
    if found is not None:
        return found
    boxes = [box for line in lines for box in line if box is not None]
    return None if are_all_addresses(audited.ends(), boxes) else ("end", 1)
