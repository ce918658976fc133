"""How much of an end goes to another one."""

from twinforks.leaves import grove_of
from twinforks.walking import check_end


def share(net, end, goal):
    """The share of an end's addresses that go to an end, as a pair (number, power): number / 2 ** power."""
    grove = grove_of(net)
    check_end(net, end)
    check_end(net, goal)
    number = 0
    power = 0
    for leaf in grove.leaves_at(net.ends().index(end)):
        other = grove.partner(leaf)
        if other is not None and grove.boxes[other][0] == goal:
            halved = len(grove.boxes[leaf][1]) + len(grove.boxes[leaf][2])
            if halved > power:
                number = number << (halved - power)
                power = halved
            number += 1 << (power - halved)
    while power > 0 and number & 1 == 0:
        number = number >> 1
        power -= 1
    return number, power
