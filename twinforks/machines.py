"""Machines with a tape that can be gone back."""

from twinforks.errors import BadMachine, BadRules, BadStates
from twinforks.forms import check_endless, is_figure
from twinforks.piles import Pile
from twinforks.things import check_most, is_list, is_name, is_pair

# What each move is, gone back.
BACK_MOVES = {"left": "right", "right": "left", "stay": "stay"}


def is_state(thing):
    """Whether any object is a pair of a name and a move."""
    return is_pair(thing) and is_name(thing[0]) and isinstance(thing[1], str) and thing[1] in BACK_MOVES


def first_no_state(states):
    """The index of the first thing that is no state behind those ahead, how many there are if too few, else None."""
    if not is_list(states):
        return 0
    names = {}
    for at, state in enumerate(states):
        if not is_state(state) or state[0] in names:
            return at
        names[state[0]] = True
    return len(states) if len(states) < 2 else None


def is_rule(names, thing):
    """Whether any object is a rule, by itself, among states of these names."""
    if not is_list(thing) or len(thing) != 4 or not is_figure(thing[1]) or not is_figure(thing[2]):
        return False
    return thing[0] in names[:-1] and thing[3] in names[1:]


def first_no_rule(names, rules):
    """The index of the first thing that is no rule behind those ahead, 0 for no list, None without one."""
    if not is_list(rules):
        return 0
    taken = {}
    for at, rule in enumerate(rules):
        if not is_rule(names, rule):
            return at
        sides = [("from", rule[0], rule[1]), ("to", rule[3], rule[2])]
        if any([side in taken for side in sides]):
            return at
        taken.update({side: True for side in sides})
    return None


def check_machine(machine):
    if not isinstance(machine, Machine):
        raise BadMachine(machine)


class Machine:
    """States, each with its move, and rules. It never changes."""

    def __init__(self, states, rules):
        at = first_no_state(states)
        if at is not None:
            raise BadStates(at)
        names = [name for name, _ in states]
        at = first_no_rule(names, rules)
        if at is not None:
            raise BadRules(at)
        self._states = [(name, move) for name, move in states]
        placed = sorted([(names.index(rule[0]), rule[1], at) for at, rule in enumerate(rules)])
        self._rules = [tuple(rules[at]) for _, _, at in placed]

    def states(self):
        return list(self._states)

    def rules(self):
        """The rules by their states, as these stand, then by what they read."""
        return list(self._rules)

    def __eq__(self, other):
        return isinstance(other, Machine) and self._states == other._states and self._rules == other._rules


def move_head(move, left, right):
    """Moves the head between two piles, the figure under it the top of the right one."""
    if move == "right":
        left.put_figure(right.take_figure())
    elif move == "left":
        right.put_figure(left.take_figure())


def machine_run(machine, left, right, most):
    """Where a machine is done or stopped, with which rows, behind how many rules; None if it needs more than most."""
    check_machine(machine)
    check_endless(left)
    check_endless(right)
    check_most(most)
    moves = {name: move for name, move in machine.states()}
    rules = {(rule[0], rule[1]): (rule[2], rule[3]) for rule in machine.rules()}
    first, last = [machine.states()[at][0] for at in (0, -1)]
    sides = [Pile([], left), Pile([], right)]
    state = first
    number = 0
    while True:
        move_head(moves[state], sides[0], sides[1])
        if state == last:
            return "out", sides[0].whole(), sides[1].whole(), number
        figure = sides[1].take_figure()
        if (state, figure) not in rules:
            sides[1].put_figure(figure)
            return "stopped", state, sides[0].whole(), sides[1].whole(), number
        if number == most:
            return None
        written, state = rules[(state, figure)]
        sides[1].put_figure(written)
        number += 1


def back_machine(machine):
    """The machine that undoes another one's runs."""
    check_machine(machine)
    states = [(name, BACK_MOVES[move]) for name, move in reversed(machine.states())]
    return Machine(states, [(after, written, read, state) for state, read, written, after in machine.rules()])
