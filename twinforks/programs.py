"""Programs that can be gone back."""

from twinforks.errors import BadProgram
from twinforks.forms import is_figure
from twinforks.things import is_list, is_pair

# How many parts a deed of each word has.
PARTS = {"put": 3, "take": 3, "turn": 2, "by": 5, "round": 4, "stop": 1}


def is_pile(thing):
    return isinstance(thing, str) and thing in ("x", "y")


def inner_programs(deed):
    """The programs within a deed."""
    if deed[0] == "by":
        return [deed[2], deed[3]]
    return [deed[2]] if deed[0] == "round" else []


def piles_in(deed):
    """The things of a deed that should be piles."""
    if deed[0] in ("put", "take"):
        return [deed[2]]
    if deed[0] in ("by", "round"):
        return [deed[1], deed[-1]]
    return list(deed[1:])


def is_deed(thing):
    """Whether any object is a deed by its form, its inner programs not looked at."""
    if not is_list(thing) or len(thing) == 0 or not isinstance(thing[0], str):
        return False
    if PARTS.get(thing[0], 0) != len(thing) or not all([is_pile(pile) for pile in piles_in(thing)]):
        return False
    return thing[0] not in ("put", "take") or is_figure(thing[1])


def is_do(thing, names):
    """Whether any object is the deed of a book that does a line of one of these names."""
    return is_pair(thing) and thing[0] == "do" and isinstance(thing[1], str) and thing[1] in names


def is_program_with(thing, names):
    """Whether any object is a program in which lines of these names may be done."""
    left = [thing]
    while len(left) > 0:
        program = left.pop()
        if not is_list(program) or not all([is_deed(deed) or is_do(deed, names) for deed in program]):
            return False
        for deed in program:
            left.extend(inner_programs(deed))
    return True


def is_program(thing):
    """Whether any object is a program."""
    return is_program_with(thing, [])


def check_program(program):
    if not is_program(program):
        raise BadProgram(program)


def all_deeds(program):
    """All deeds of a program, those of inner programs too."""
    deeds = []
    left = [program]
    while len(left) > 0:
        program = left.pop()
        deeds.extend(program)
        for deed in program:
            left.extend(inner_programs(deed))
    return deeds


def deeds_in(program):
    """How many deeds a program has, those of inner programs too."""
    check_program(program)
    return len(all_deeds(program))


def rounds_in(program):
    """How many rounds a program has, those of inner programs too."""
    check_program(program)
    return len([deed for deed in all_deeds(program) if deed[0] == "round"])


class Backer:
    """Makes programs that go back, inner ones later than those about them."""

    def __init__(self):
        self.left = []

    def later(self, program):
        """The list that will be a program's back program."""
        back = []
        self.left.append((program, back))
        return back

    def back_deed(self, deed):
        """The deed that goes back."""
        word = deed[0]
        if word in ("put", "take"):
            return ("put" if word == "take" else "take"), deed[1], deed[2]
        if word == "by":
            return word, deed[4], self.later(deed[2]), self.later(deed[3]), deed[1]
        if word == "round":
            return word, deed[3], self.later(deed[2]), deed[1]
        return tuple(deed)

    def make_all(self):
        while len(self.left) > 0:
            program, back = self.left.pop()
            back.extend([self.back_deed(deed) for deed in reversed(program)])


def back_program(program):
    """The program that goes back."""
    check_program(program)
    backer = Backer()
    back = backer.later(program)
    backer.make_all()
    return back
