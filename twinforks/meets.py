"""What a meeting does to a wiring."""

from twinforks.wirings import GONE


def meet(wiring, one, other):
    """Does the meeting of two cells; tells its depth, one more than that of the deepest ones it hangs on."""
    back = wiring.back_of(one)
    depth = 1 + max(wiring.made[one], wiring.made[other], wiring.joined[back])
    kind = wiring.kinds[one]
    other_kind = wiring.kinds[other]
    wiring.kinds[one] = GONE
    wiring.kinds[other] = GONE
    if kind == "stop" and other_kind == "stop":
        return depth
    if kind == "stop":
        shut_legs(wiring, other, depth)
    elif other_kind == "stop":
        shut_legs(wiring, one, depth)
    elif kind == other_kind:
        wiring.splice(back + 1, wiring.back_of(other) + 1, depth)
        wiring.splice(back + 2, wiring.back_of(other) + 2, depth)
    else:
        pass_through(wiring, back, wiring.back_of(other), (kind, other_kind), depth)
    return depth


def shut_legs(wiring, fork, depth):
    """Puts stops in the place of a fork's legs."""
    back = wiring.back_of(fork)
    wiring.hand_on(back + 1, wiring.grow("stop", depth))
    wiring.hand_on(back + 2, wiring.grow("stop", depth))


def pass_through(wiring, back, other_back, kinds, depth):
    """Puts two forks of each kind in the place of the legs of the fork of the other kind."""
    backs = [wiring.grow(kinds[1], depth), wiring.grow(kinds[1], depth)]
    other_backs = [wiring.grow(kinds[0], depth), wiring.grow(kinds[0], depth)]
    for i in range(2):
        wiring.hand_on(back + 1 + i, backs[i])
        wiring.hand_on(other_back + 1 + i, other_backs[i])
    for i in range(2):
        for j in range(2):
            wiring.link(backs[i] + 1 + j, other_backs[j] + 1 + i, 0)
