"""Courses: meetings one behind another."""

from twinforks.errors import BadCourse
from twinforks.meetings import is_pair_of_numbers, sort_of_cells
from twinforks.meets import meet
from twinforks.nets import check_net, net_of_wiring
from twinforks.orders import cell_order
from twinforks.things import is_list


def cells_of(wiring, thing, order):
    """The two cells of a meeting, told by their indexes in an order; None for what is no meeting."""
    if not is_pair_of_numbers(thing) or not thing[0] < thing[1] < len(order):
        return None
    one = order[thing[0]]
    other = order[thing[1]]
    if wiring.mates[wiring.back_of(one)] != wiring.back_of(other):
        return None
    return one, other


class CourseWork:
    """Does the meetings of a course on a wiring, as far as they are meetings."""

    def __init__(self, wiring):
        self.work = wiring
        self.sorts = []
        self.depths = []

    def do_one(self, thing, closed):
        """Does any object if it is a meeting, and tells whether it is; closed: whether one in a closed part will do."""
        order, many = cell_order(self.work)
        pair = cells_of(self.work, thing, order if closed else order[:many])
        if pair is None:
            return False
        one, other = pair
        self.sorts.append(sort_of_cells(self.work, one, other))
        self.depths.append(meet(self.work, one, other))
        return True

    def first_wrong(self, course, closed):
        """Does a list's meetings; the index of the first thing that is none, None if all are."""
        for at, thing in enumerate(course):
            if not self.do_one(thing, closed):
                return at
        return None


def course_done(net, course, closed):
    """The work of a whole course, BadCourse if it is none."""
    check_net(net)
    if not is_list(course):
        raise BadCourse(0)
    work = CourseWork(net.wiring())
    at = work.first_wrong(course, closed)
    if at is not None:
        raise BadCourse(at)
    return work


def many_of_each(sorts):
    """The dict from the sorts to how many there are."""
    many = {}
    for sort in sorted(sorts):
        many[sort] = many.get(sort, 0) + 1
    return many


def course_wrong(net, thing):
    """What is wrong with any object as a course, None if it is one."""
    check_net(net)
    if not is_list(thing):
        return ("form",)
    at = CourseWork(net.wiring()).first_wrong(thing, True)
    if at is None:
        return None
    return "meeting", at


def is_course(net, thing):
    """Whether any object is a course."""
    return course_wrong(net, thing) is None


def behind_course(net, course):
    """The net behind a course."""
    return net_of_wiring(course_done(net, course, True).work)


def course_sorts(net, course):
    """How many meetings of each sort a course has."""
    return many_of_each(course_done(net, course, True).sorts)
