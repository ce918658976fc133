"""Runs of programs."""

from twinforks.forms import check_endless
from twinforks.piles import Pile
from twinforks.programs import check_program
from twinforks.things import check_most


class Runner:
    """Goes through a program with two piles. What is left to be done stands in a list, the next deed last; beside the
    deeds of programs there are ("again", deed of a round), which stands behind each going through its program.
    """

    def __init__(self, program, x, y):
        self.piles = {"x": Pile([], x), "y": Pile([], y)}
        self.passings = 0
        self.stopped = False
        self.left = []
        self.go_through(program)

    def go_through(self, program):
        self.left.extend(list(program)[::-1])

    def take(self, pile):
        self.passings += 1
        return self.piles[pile].take_figure()

    def put(self, figure, pile):
        self.passings += 1
        self.piles[pile].put_figure(figure)

    def do_next(self):
        """Does the next deed, or begins it."""
        deed = self.left.pop()
        word = deed[0]
        if word == "put":
            self.put(deed[1], deed[2])
        elif word == "take":
            self.stopped = self.take(deed[2]) != deed[1]
        elif word == "turn":
            self.put(1 - self.take(deed[1]), deed[1])
        elif word == "by":
            figure = self.take(deed[1])
            self.left.append(("put", figure, deed[4]))
            self.go_through(deed[2 + figure])
        elif word == "round":
            self.begin_again(deed, 0)
        elif word == "again":
            if self.take(deed[1][3]) == 1:
                self.begin_again(deed[1], 1)
        else:
            self.stopped = True

    def begin_again(self, deed, figure):
        """Goes through the program of a round once more."""
        self.put(figure, deed[1])
        self.left.append(("again", deed))
        self.go_through(deed[2])

    def run_all(self, most):
        """Goes on until it comes out, is stopped, or has more than most passings."""
        while len(self.left) > 0 and not self.stopped and self.passings <= most:
            self.do_next()


def run(program, x, y, most):
    """What a program does with two piles, None if it is still under way behind most passings."""
    check_program(program)
    check_endless(x)
    check_endless(y)
    check_most(most)
    runner = Runner(program, x, y)
    runner.run_all(most)
    if runner.passings > most:
        return None
    if runner.stopped:
        return "stopped", runner.passings
    return "out", runner.piles["x"].whole(), runner.piles["y"].whole(), runner.passings
