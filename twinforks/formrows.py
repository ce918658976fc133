"""The one form of each pairing."""

from twinforks.boxrooms import is_near
from twinforks.forms import box_of
from twinforks.leaves import check_other, grove_of
from twinforks.pairings import shared_box, unlike_goals

SHUT = "shut"


class EndRows:
    """The leaves of the tree of one end: of each its box, rows as strings, and where it goes."""

    def __init__(self, grove, at):
        self.grove = grove
        self.leaves = grove.leaves_at(at)
        self.end = grove.work.names[at]

    def goal_by(self, leaf, box):
        """The goal that a box must have if it has one, as a leaf that it meets tells; SHUT; None if it has none."""
        _, s, t = shared_box(self.grove.boxes[leaf], box)
        goal = self.grove.goal(leaf, s, t)
        if goal is None:
            return SHUT
        end, u, v = goal
        beyond_s = s[len(box[1]):]
        beyond_t = t[len(box[2]):]
        if not u.endswith(beyond_s) or not v.endswith(beyond_t):
            return None
        return end, u[:len(u) - len(beyond_s)], v[:len(v) - len(beyond_t)]

    def answer(self, s, t):
        """The goal of a box; SHUT; None if it has no goal and is not shut."""
        box = (self.end, s, t)
        told = [self.goal_by(leaf, box) for leaf in self.meeting(s, t)]
        return told[0] if told == [told[0]] * len(told) else None

    def meeting(self, s, t):
        """The leaves that a box meets."""
        boxes = self.grove.boxes
        return [leaf for leaf in self.leaves if is_near(boxes[leaf][1], s) and is_near(boxes[leaf][2], t)]

    def strip_rows(self, s):
        """The shortest rows t, ascending, for which the box of s and t has an answer, each with it; None if s is not
        even.
        """
        found = []
        left = [""]
        while len(left) > 0:
            t = left.pop()
            answer = self.answer(s, t)
            if answer is not None:
                found.append((t, answer))
            elif max([len(self.grove.boxes[leaf][2]) for leaf in self.meeting(s, t)]) > len(t):
                left.extend([t + "1", t + "0"])
            else:
                # All leaves here have no longer row t, so a longer one would not do either.
                return None
        return found

    def all_rows(self):
        """The pairs of a box and its answer, strips ascending, then t ascending."""
        found = []
        left = [""]
        while len(left) > 0:
            s = left.pop()
            strip = self.strip_rows(s)
            if strip is None:
                left.extend([s + "1", s + "0"])
            else:
                found.extend([((self.end, s, t), answer) for t, answer in strip])
        return found


def form(net):
    """The one form of a still net's pairing."""
    grove = grove_of(net)
    told = []
    for at in range(len(grove.listings)):
        for box, answer in EndRows(grove, at).all_rows():
            if answer != SHUT:
                told.append((box_of(box), box_of(answer)))
    return told


def alike(net, other):
    """Whether two still nets lead all addresses alike."""
    grove = grove_of(net)
    check_other(net, other)
    return len(unlike_goals(grove, grove_of(other))) == 0
