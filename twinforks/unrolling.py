"""Plans made nets."""

from twinforks.nets import net_of_wiring
from twinforks.plans import check_plan
from twinforks.wirings import wired


class Bench:
    """What a part is made of while its uses are put in: cells and joins of wires, which have any keys."""

    def __init__(self):
        self.rows = []
        self.joined_wires = []
        self.circles = 0
        # Names are strings, so numbers are free for the wires of copies.
        self.fresh = 0

    def put_item(self, item):
        """Puts in what is no use."""
        if item[0] == "join":
            self.joined_wires.append((item[1], item[2]))
        elif item[0] == "loop":
            self.circles += 1
        else:
            self.rows.append(item)

    def copy_in(self, wiring, wires):
        """Puts in a copy of an unrolled part, its ends made one with wires."""
        keys = list(wires) + [None] * (3 * len(wiring.kinds))
        for place, mate in enumerate(wiring.mates):
            if place < mate and wiring.is_end(mate):
                self.joined_wires.append((keys[place], keys[mate]))
            elif not wiring.is_end(place) and mate >= 0 and keys[place] is None:
                keys[place] = self.key_at(wiring, keys, mate)
                keys[mate] = keys[place]
        for cell, kind in enumerate(wiring.kinds):
            self.rows.append((kind, *[keys[place] for place in wiring.places_of(cell)]))
        self.circles += wiring.circles

    def key_at(self, wiring, keys, mate):
        if wiring.is_end(mate):
            return keys[mate]
        self.fresh += 1
        return self.fresh


def wiring_of(ends, items, unrolled_parts):
    """The wiring of ends and items, the parts ahead as they are unrolled."""
    bench = Bench()
    for item in items:
        if item[0] == "use":
            bench.copy_in(unrolled_parts[item[1]], item[2])
        else:
            bench.put_item(item)
    wiring = wired(ends, bench.rows, bench.joined_wires)
    wiring.circles += bench.circles
    return wiring


def parts_used(plan):
    """The names of all parts of which a copy comes into the net: others may be too great to be unrolled."""
    used = {item[1]: True for item in plan.body() if item[0] == "use"}
    for name, _, items in reversed(plan.parts()):
        if name in used:
            used.update({item[1]: True for item in items if item[0] == "use"})
    return used


def unrolled(plan):
    """The net of a plan, for each use a copy of its part."""
    check_plan(plan)
    used = parts_used(plan)
    unrolled_parts = {}
    for name, ends, items in plan.parts():
        if name in used:
            unrolled_parts[name] = wiring_of(ends, items, unrolled_parts)
    return net_of_wiring(wiring_of(plan.ends(), plan.body(), unrolled_parts))


def counts_in(items, counts):
    """How many x forks, y forks, stops items have, the parts' counts told."""
    total = [0, 0, 0]
    for item in items:
        if item[0] == "use":
            total = [one + more for one, more in zip(total, counts[item[1]])]
        elif item[0] in ("x", "y", "stop"):
            total[("x", "y", "stop").index(item[0])] += 1
    return total


def unrolled_counts(plan):
    """How many x forks, y forks, stops a plan's net has, without unrolling it."""
    check_plan(plan)
    counts = {}
    for name, _, items in plan.parts():
        counts[name] = counts_in(items, counts)
    return tuple(counts_in(plan.body(), counts))
