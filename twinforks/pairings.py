"""Where two still nets with the same ends lead the same addresses. Rows are strings of figures."""

from twinforks.boxrooms import is_near


def shared_box(box, other):
    """The box of all that lies in both of two boxes at one end, None if they are apart."""
    if not is_near(box[1], other[1]) or not is_near(box[2], other[2]):
        return None
    return box[0], max(box[1], other[1], key=len), max(box[2], other[2], key=len)


def unlike_goals(one, other):
    """Of the boxes in which leaves of both meet those that go elsewhere: triples (box, goal in one, in the other)."""
    found = []
    for at in range(len(one.listings)):
        for leaf in one.leaves_at(at):
            for other_leaf in other.leaves_at(at):
                box = shared_box(one.boxes[leaf], other.boxes[other_leaf])
                if box is None:
                    continue
                goals = (one.goal(leaf, box[1], box[2]), other.goal(other_leaf, box[1], box[2]))
                if goals[0] != goals[1]:
                    found.append((box, goals[0], goals[1]))
    return found
