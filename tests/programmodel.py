"""Runs of programs and machines, and the grammar of programs' texts, by the words of [70] to [77], slowly."""

from twinforks.endless import drop_tops, put_all, tops


class Stopped(Exception):
    pass


class Spent(Exception):
    pass


class SlowRun:
    """Two piles as endless rows, told anew at each passing."""

    def __init__(self, x, y, most):
        self.piles = {"x": x, "y": y}
        self.most = most
        self.number = 0

    def pass_one(self):
        if self.number == self.most:
            raise Spent
        self.number += 1

    def put(self, figure, pile):
        self.pass_one()
        self.piles[pile] = put_all([figure], self.piles[pile])

    def take(self, pile):
        self.pass_one()
        figure = tops(self.piles[pile], 1)[0]
        self.piles[pile] = drop_tops(self.piles[pile], 1)
        return figure

    def go(self, program):
        for deed in program:
            word = deed[0]
            if word == "put":
                self.put(deed[1], deed[2])
            elif word == "take":
                if self.take(deed[2]) != deed[1]:
                    raise Stopped
            elif word == "turn":
                self.put(1 - self.take(deed[1]), deed[1])
            elif word == "stop":
                raise Stopped
            elif word == "by":
                figure = self.take(deed[1])
                self.go(deed[2] if figure == 0 else deed[3])
                self.put(figure, deed[4])
            else:
                self.put(0, deed[1])
                self.go(deed[2])
                while self.take(deed[3]) == 1:
                    self.put(1, deed[1])
                    self.go(deed[2])


def slow_run(program, x, y, most):
    run = SlowRun(x, y, most)
    try:
        run.go(program)
    except Stopped:
        return "stopped", run.number
    except Spent:
        return None
    return "out", put_all([], run.piles["x"]), put_all([], run.piles["y"]), run.number


def slow_machine_run(states, rules, left, right, most):
    moves = dict(states)
    state = states[0][0]
    number = 0
    while True:
        if moves[state] == "right":
            left, right = put_all(tops(right, 1), left), drop_tops(right, 1)
        elif moves[state] == "left":
            left, right = drop_tops(left, 1), put_all(tops(left, 1), right)
        if state == states[-1][0]:
            return "out", put_all([], left), put_all([], right), number
        found = [rule for rule in rules if rule[0] == state and [rule[1]] == tops(right, 1)]
        if not found:
            return "stopped", state, put_all([], left), put_all([], right), number
        if number == most:
            return None
        right = put_all([found[0][2]], drop_tops(right, 1))
        state = found[0][3]
        number += 1


SIMPLE = ["put 0 x", "put 0 y", "put 1 x", "put 1 y", "take 0 x", "take 0 y", "take 1 x", "take 1 y", "turn x", "turn y", "stop"]


class Grammar:
    """Whether a text is one of a sort, or the beginning of one; names are those of lines that can be done. What is still
    to come is a tuple of strings and of the words PROGRAM, DEEDS, MORE.
    """

    def __init__(self, names=()):
        self.heads = [(one,) for one in [*SIMPLE, *[f"do {name}" for name in names]]]
        for pile in "xy":
            for other in "xy":
                self.heads.append((f"by {pile} (", "PROGRAM", " | ", "PROGRAM", f") to {other}"))
                self.heads.append((f"round {pile} (", "PROGRAM", f") {other}"))

    def ways(self, word):
        if word == "PROGRAM":
            return [("nothing",), ("DEEDS",)]
        if word == "DEEDS":
            return [(*head, "MORE") for head in self.heads]
        return [(), ("; ", "DEEDS")]

    def match(self, text, coming=("PROGRAM",)):
        """What of the text is told by what is coming: "all", "begins", or None if it is no such text."""
        found = set()
        left = [(text, coming)]
        while left:
            text, coming = left.pop()
            if not coming:
                if text == "":
                    return "all"
            elif coming[0] in ("PROGRAM", "DEEDS", "MORE"):
                if text == "" and coming != ("MORE",):
                    found.add("begins")
                    continue
                left.extend((text, (*way, *coming[1:])) for way in self.ways(coming[0]))
            elif text.startswith(coming[0]):
                left.append((text[len(coming[0]):], coming[1:]))
            elif coming[0].startswith(text):
                found.add("begins")
        return "begins" if found else None


def slow_fault(grammar, text, coming=("PROGRAM",)):
    """The first wrong sign by matching all that is ahead of each sign."""
    if grammar.match(text, coming) == "all":
        return None
    for at in range(len(text)):
        if grammar.match(text[:at + 1], coming) is None:
            return at
    return len(text)
