"""Surroundings that part two open nets."""

from twinforks.boxrooms import is_near
from twinforks.derivations import derivation
from twinforks.forms import box_of
from twinforks.leaves import check_other, longer, open_grove
from twinforks.nets import check_net
from twinforks.pairings import unlike_goals
from twinforks.resting import rest
from twinforks.stills import cut_or_leaf, opened
from twinforks.surroundings import fare_within, is_surroundings_of, lead
from twinforks.things import is_number, is_pair


class Parter:
    """A box that goes elsewhere in two nets: to target in the one net; to strayed, or nowhere, in the other one, whose
    trees are the grove. All of them have rows as strings and are lengthened alike.
    """

    def __init__(self, grove, box, target, strayed):
        self.grove = grove
        self.box = box
        self.target = target
        self.strayed = strayed

    def lengthen(self, kind, signs):
        self.box = longer_box(self.box, kind, signs)
        self.target = longer_box(self.target, kind, signs)
        if self.strayed is not None:
            self.strayed = longer_box(self.strayed, kind, signs)

    def set_apart(self):
        """Lets the two boxes to which it goes be apart."""
        if self.strayed is None or self.target[0] != self.strayed[0]:
            return
        if not is_near(self.target[1], self.strayed[1]) or not is_near(self.target[2], self.strayed[2]):
            return
        kind, at = ("x", 1) if self.target[1] != self.strayed[1] else ("y", 2)
        one, other = sorted([self.target[at], self.strayed[at]], key=len)
        # Both go on by the figure that the longer row does not go on by.
        self.lengthen(kind, "0" if other[len(one)] == "1" else "1")

    def target_leaf(self):
        """The leaf of the other net in which the target lies, once the boxes are long enough."""
        found = cut_or_leaf(self.grove, self.target[0], self.target[1], self.target[2])
        while found in ("x", "y"):
            self.lengthen(found, "0")
            found = cut_or_leaf(self.grove, self.target[0], self.target[1], self.target[2])
        return found

    def surroundings(self, ends):
        """Those that lead out the box and its target, and stop what goes to them in the other net."""
        self.set_apart()
        leaf = self.target_leaf()
        stopped = [self.strayed, self.grove.goal(leaf, self.target[1], self.target[2])]
        return lead(ends, box_of(self.box), box_of(self.target), [box_of(box) for box in stopped if box is not None])


def longer_box(box, kind, signs):
    s, t = longer(box[1], box[2], kind, signs)
    return box[0], s, t


def box_length(found):
    return len(found[0][1]) + len(found[0][2])


def parting(net, other):
    """Surroundings that part two open nets, and which net comes to the wire; None if nothing parts them."""
    groves = [open_grove(net)]
    check_other(net, other)
    groves.append(open_grove(other))
    # The shortest boxes make the least surroundings, within which nets come to rest behind the fewest meetings.
    found = sorted(unlike_goals(groves[0], groves[1]), key=box_length)
    if len(found) == 0:
        return None
    box, goal, strayed = found[0]
    if goal is None:
        return 1, Parter(groves[0], box, strayed, None).surroundings(net.ends())
    return 0, Parter(groves[1], box, goal, strayed).surroundings(net.ends())


def is_form(net, thing):
    if not is_pair(thing) or not is_number(thing[0]) or thing[0] > 1:
        return False
    return is_surroundings_of(net.ends(), thing[1])


def parting_wrong(net, other, thing):
    """What is wrong with any object as a parting, None if it is one."""
    open_grove(net)
    check_other(net, other)
    open_grove(other)
    if not is_form(net, thing):
        return ("form",)
    nets = [net, other]
    if fare_within(nets[thing[0]], thing[1], None) != "wire":
        return ("wire",)
    if fare_within(nets[1 - thing[0]], thing[1], None) != "stops":
        return ("stops",)
    return None


def compared(net, other, most):
    """A derivation or a parting of two nets at rest, opened; None if that takes more than most meetings."""
    check_net(net)
    check_other(net, other)
    found = rest(net, most)
    other_found = rest(other, most)
    if found is None or other_found is None:
        return None
    left = opened(found[0])
    right = opened(other_found[0])
    steps = derivation(left, right)
    if steps is not None:
        return "alike", steps
    which, surroundings = parting(left, right)
    return "parted", which, surroundings
